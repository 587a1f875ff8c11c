/- What each call of the document's answer of layer 9 (Turn, Give, Ref, Take, Count, Owned) returns and leaves, for every pool whose descriptors lie in memory and every number: the same functions as the program's. -/
import Derived.Test.YtgajjaibljmikaaDoorS9
import Derived.Test.YtgajjaibljmikaaDoorD8
import Derived.Maps.AppendAt
namespace Go.Proofs.YtgajjaibljmikaaDoor
open Go.RowKit

theorem size43' : (Tryd.prog.info? 43).map (·.size) = some 4 := by kernel_rfl

set_option maxRecDepth 100000 in
set_option maxHeartbeats 1000000 in
theorem rturn_out {w : World} {p b : Nat} {L : List Ds} (h : RP w p b L) (f k o : Int) (hf : ¬ (0 ≤ f ∧ f < L.length)) :
    Calls Tryd.prog 17 #[.pointer (some ⟨p, 0, none⟩), .int .i64 f, .int .i64 k, .int .i64 o] w fun x w' => x = .returned (.int .i64 2) ∧ w' = w := by
  obtain ⟨c, hc⟩ := h.slice
  clear h
  generalize L.length = n at hc hf
  by_cases h0 : f < 0
  · go_enter Tryd.func17, Tryd.ntmps17
    go_wp2
    go_ret
    exact ⟨rfl, rfl⟩
  · have h1 : (n : Int) ≤ f := by omega
    clear hf
    go_enter Tryd.func17, Tryd.ntmps17
    go_wp2
    go_ret
    exact ⟨rfl, rfl⟩
set_option maxRecDepth 100000 in
set_option maxHeartbeats 1000000 in
theorem rturn_no {w : World} {p b : Nat} {L : List Ds} (h : RP w p b L) (k o : Int) (i : Nat) (hi : i < L.length) (e' : Int) (hE : nxE (L.getD i zd) k o = e') (hne : (e' == 0) = false) :
    Calls Tryd.prog 17 #[.pointer (some ⟨p, 0, none⟩), .int .i64 i, .int .i64 k, .int .i64 o] w fun x w' => x = .returned (.int .i64 e') ∧ Below w.heap.size w w' := by
  obtain ⟨c, hc⟩ := h.slice
  obtain ⟨c0, c1, c2, c3⟩ := h.cells i hi
  have hn : L.length < 65536 := by have := h.top; omega
  have hC := rnext_at ⟨(L.getD i zd).k, (L.getD i zd).o, (L.getD i zd).r, (L.getD i zd).e⟩ k o w
  have hE' : nxE ⟨(L.getD i zd).k, (L.getD i zd).o, (L.getD i zd).r, (L.getD i zd).e⟩ k o = e' := hE
  rw [hE'] at hC
  generalize nx ⟨(L.getD i zd).k, (L.getD i zd).o, (L.getD i zd).r, (L.getD i zd).e⟩ k o = d' at hC
  obtain ⟨x0, x1, x2, x3⟩ := d'
  generalize (L.getD i zd).k = y0 at *
  generalize (L.getD i zd).o = y1 at *
  generalize (L.getD i zd).r = y2 at *
  generalize (L.getD i zd).e = y3 at *
  have HC := hid hC
  clear hC hE hE' h
  have h0 : ¬ (i : Int) < 0 := by omega
  have h1 : ¬ (L.length : Int) ≤ i := by omega
  generalize L.length = n at *
  go_enter Tryd.func17, Tryd.ntmps17
  go_wp2_with fail
  refine HC.out.mono ?_
  rintro x w2 ⟨rfl, hB⟩
  have HB := hid hB
  clear hB
  (try unfold two)
  (try unfold dV)
  (try simp only [])
  go_wp2
  go_ret
  exact ⟨rfl, bgo HB.out (below_one _ _)⟩
set_option maxRecDepth 100000 in
set_option maxHeartbeats 1000000 in
theorem rturn_ok {w : World} {p b : Nat} {L : List Ds} (h : RP w p b L) (k o : Int) (i : Nat) (hi : i < L.length) (hE : nxE (L.getD i zd) k o = 0) :
    Calls Tryd.prog 17 #[.pointer (some ⟨p, 0, none⟩), .int .i64 i, .int .i64 k, .int .i64 o] w fun x w' => x = .returned (.int .i64 0) ∧ RP w' p b (L.set i (nxD (L.getD i zd) k o)) ∧ Bt b w w' := by
  have HP := hid h
  have HI := hid hi
  obtain ⟨c, hc⟩ := h.slice
  obtain ⟨c0, c1, c2, c3⟩ := h.cells i hi
  have hn : L.length < 65536 := by have := h.top; omega
  have hC := rnext_at ⟨(L.getD i zd).k, (L.getD i zd).o, (L.getD i zd).r, (L.getD i zd).e⟩ k o w
  have hE' : nxE ⟨(L.getD i zd).k, (L.getD i zd).o, (L.getD i zd).r, (L.getD i zd).e⟩ k o = 0 := hE
  have hD : nx ⟨(L.getD i zd).k, (L.getD i zd).o, (L.getD i zd).r, (L.getD i zd).e⟩ k o = nxD (L.getD i zd) k o := nx_ok hE'
  rw [hE', hD] at hC
  generalize nxD (L.getD i zd) k o = d' at hC ⊢
  obtain ⟨x0, x1, x2, x3⟩ := d'
  generalize (L.getD i zd).k = y0 at *
  generalize (L.getD i zd).o = y1 at *
  generalize (L.getD i zd).r = y2 at *
  generalize (L.getD i zd).e = y3 at *
  have HC := hid hC
  clear hC hE hE' h hD
  have h0 : ¬ (i : Int) < 0 := by omega
  have h1 : ¬ (L.length : Int) ≤ i := by omega
  generalize hq : L.length = n at *
  have HQ := hid hq
  clear hq
  go_enter Tryd.func17, Tryd.ntmps17
  go_wp2_with fail
  refine HC.out.mono ?_
  rintro x w2 ⟨rfl, hB⟩
  have hP2 := (HP.out.below hB).alloc (.cells #[.int .i64 x0, .int .i64 x1, .int .i64 x2, .int .i64 x3] 43)
  have hQ := hP2
  have HB := hid hB
  clear hB c0 c1 c2 c3 hc
  (try unfold two)
  (try unfold dV)
  (try simp only [])
  obtain ⟨c, hc⟩ := hP2.slice
  rw [HQ.out] at hc
  have f0 := hP2.free (i * 4)
  have f1 := hP2.free (i * 4 + 1)
  have f2 := hP2.free (i * 4 + 2)
  have f3 := hP2.free (i * 4 + 3)
  obtain ⟨c0, c1, c2, c3⟩ := hP2.cells i (by rw [HQ.out]; exact HI.out)
  have a0 := heap_alloc_new w2 (.cells #[.int .i64 x0, .int .i64 x1, .int .i64 x2, .int .i64 x3] 43)
  obtain ⟨p00, p01, p02, p03, -, -, -, -⟩ := four a0
  have HP2 := hid hQ
  clear hQ hP2 a0
  go_wp2_with fail
  go_region
  all_goals
    go_wp2
    go_ret
    refine ⟨rfl, (HP2.out.set i (by rw [HQ.out]; exact HI.out) ⟨x0, x1, x2, x3⟩).drew, ?_⟩
    exact (Bt.of_below (bgo HB.out (below_one _ _))).trans (Bt.lay _ b i ⟨x0, x1, x2, x3⟩).drew
theorem rturn_at {w : World} {p b : Nat} {L : List Ds} (h : RP w p b L) (f k o : Int) :
    Calls Tryd.prog 17 #[.pointer (some ⟨p, 0, none⟩), .int .i64 f, .int .i64 k, .int .i64 o] w fun x w' => x = .returned (.int .i64 (tE L f k o)) ∧ RP w' p b (tL L f k o) ∧ Bt b w w' := by
  by_cases hf : 0 ≤ f ∧ f < L.length
  · obtain ⟨i, rfl⟩ := Int.eq_ofNat_of_zero_le hf.1
    have hi : i < L.length := by omega
    have e1 : tE L (i : Int) k o = nxE (L.getD i zd) k o := if_pos hf
    by_cases hz : nxE (L.getD i zd) k o = 0
    · have e2 : tL L (i : Int) k o = L.set i (nxD (L.getD i zd) k o) := if_pos (e1.trans hz)
      rw [e1, e2, hz]
      exact rturn_ok h k o i hi hz
    · have e2 : tL L (i : Int) k o = L := if_neg (by rw [e1]; exact hz)
      rw [e1, e2]
      exact (rturn_no h k o i hi _ rfl (by simpa using hz)).mono fun x w' ⟨a, b⟩ => ⟨a, h.below b, Bt.of_below b⟩
  · have e1 : tE L f k o = 2 := if_neg hf
    have e2 : tL L f k o = L := if_neg (by rw [e1]; decide)
    rw [e1, e2]
    refine (rturn_out h f k o hf).mono ?_
    rintro x w' ⟨a, rfl⟩
    exact ⟨a, h, Bt.refl _ _⟩

set_option maxRecDepth 100000 in
set_option maxHeartbeats 1000000 in
theorem rpref_out {w : World} {p b : Nat} {L : List Ds} (h : RP w p b L) (f y : Int) (hf : ¬ (0 ≤ f ∧ f < L.length)) :
    Calls Tryd.prog 19 #[.pointer (some ⟨p, 0, none⟩), .int .i64 f, .int .i64 y] w fun x w' => x = .returned (.int .i64 2) ∧ w' = w := by
  obtain ⟨c, hc⟩ := h.slice
  clear h
  generalize L.length = n at hc hf
  by_cases h0 : f < 0
  · go_enter Tryd.func19, Tryd.ntmps19
    go_wp2
    go_ret
    exact ⟨rfl, rfl⟩
  · have h1 : (n : Int) ≤ f := by omega
    clear hf
    go_enter Tryd.func19, Tryd.ntmps19
    go_wp2
    go_ret
    exact ⟨rfl, rfl⟩
set_option maxRecDepth 100000 in
set_option maxHeartbeats 1000000 in
theorem rpref_no {w : World} {p b : Nat} {L : List Ds} (h : RP w p b L) (y : Int) (i : Nat) (hi : i < L.length) (e' : Int) (hE : rfE (L.getD i zd) y = e') (hne : (e' == 0) = false) :
    Calls Tryd.prog 19 #[.pointer (some ⟨p, 0, none⟩), .int .i64 i, .int .i64 y] w fun x w' => x = .returned (.int .i64 e') ∧ Below w.heap.size w w' := by
  obtain ⟨c, hc⟩ := h.slice
  obtain ⟨c0, c1, c2, c3⟩ := h.cells i hi
  have hn : L.length < 65536 := by have := h.top; omega
  have hC := rref_at ⟨(L.getD i zd).k, (L.getD i zd).o, (L.getD i zd).r, (L.getD i zd).e⟩ y w
  have hE' : rfE ⟨(L.getD i zd).k, (L.getD i zd).o, (L.getD i zd).r, (L.getD i zd).e⟩ y = e' := hE
  rw [hE'] at hC
  generalize rf ⟨(L.getD i zd).k, (L.getD i zd).o, (L.getD i zd).r, (L.getD i zd).e⟩ y = d' at hC
  obtain ⟨x0, x1, x2, x3⟩ := d'
  generalize (L.getD i zd).k = y0 at *
  generalize (L.getD i zd).o = y1 at *
  generalize (L.getD i zd).r = y2 at *
  generalize (L.getD i zd).e = y3 at *
  have HC := hid hC
  clear hC hE hE' h
  have h0 : ¬ (i : Int) < 0 := by omega
  have h1 : ¬ (L.length : Int) ≤ i := by omega
  generalize L.length = n at *
  go_enter Tryd.func19, Tryd.ntmps19
  go_wp2_with fail
  refine HC.out.mono ?_
  rintro x w2 ⟨rfl, hB⟩
  have HB := hid hB
  clear hB
  (try unfold two)
  (try unfold dV)
  (try simp only [])
  go_wp2
  go_ret
  exact ⟨rfl, bgo HB.out (below_one _ _)⟩
set_option maxRecDepth 100000 in
set_option maxHeartbeats 1000000 in
theorem rpref_ok {w : World} {p b : Nat} {L : List Ds} (h : RP w p b L) (y : Int) (i : Nat) (hi : i < L.length) (hE : rfE (L.getD i zd) y = 0) :
    Calls Tryd.prog 19 #[.pointer (some ⟨p, 0, none⟩), .int .i64 i, .int .i64 y] w fun x w' => x = .returned (.int .i64 0) ∧ RP w' p b (L.set i (rfD (L.getD i zd) y)) ∧ Bt b w w' := by
  have HP := hid h
  have HI := hid hi
  obtain ⟨c, hc⟩ := h.slice
  obtain ⟨c0, c1, c2, c3⟩ := h.cells i hi
  have hn : L.length < 65536 := by have := h.top; omega
  have hC := rref_at ⟨(L.getD i zd).k, (L.getD i zd).o, (L.getD i zd).r, (L.getD i zd).e⟩ y w
  have hE' : rfE ⟨(L.getD i zd).k, (L.getD i zd).o, (L.getD i zd).r, (L.getD i zd).e⟩ y = 0 := hE
  have hD : rf ⟨(L.getD i zd).k, (L.getD i zd).o, (L.getD i zd).r, (L.getD i zd).e⟩ y = rfD (L.getD i zd) y := rf_ok hE'
  rw [hE', hD] at hC
  generalize rfD (L.getD i zd) y = d' at hC ⊢
  obtain ⟨x0, x1, x2, x3⟩ := d'
  generalize (L.getD i zd).k = y0 at *
  generalize (L.getD i zd).o = y1 at *
  generalize (L.getD i zd).r = y2 at *
  generalize (L.getD i zd).e = y3 at *
  have HC := hid hC
  clear hC hE hE' h hD
  have h0 : ¬ (i : Int) < 0 := by omega
  have h1 : ¬ (L.length : Int) ≤ i := by omega
  generalize hq : L.length = n at *
  have HQ := hid hq
  clear hq
  go_enter Tryd.func19, Tryd.ntmps19
  go_wp2_with fail
  refine HC.out.mono ?_
  rintro x w2 ⟨rfl, hB⟩
  have hP2 := (HP.out.below hB).alloc (.cells #[.int .i64 x0, .int .i64 x1, .int .i64 x2, .int .i64 x3] 43)
  have hQ := hP2
  have HB := hid hB
  clear hB c0 c1 c2 c3 hc
  (try unfold two)
  (try unfold dV)
  (try simp only [])
  obtain ⟨c, hc⟩ := hP2.slice
  rw [HQ.out] at hc
  have f0 := hP2.free (i * 4)
  have f1 := hP2.free (i * 4 + 1)
  have f2 := hP2.free (i * 4 + 2)
  have f3 := hP2.free (i * 4 + 3)
  obtain ⟨c0, c1, c2, c3⟩ := hP2.cells i (by rw [HQ.out]; exact HI.out)
  have a0 := heap_alloc_new w2 (.cells #[.int .i64 x0, .int .i64 x1, .int .i64 x2, .int .i64 x3] 43)
  obtain ⟨p00, p01, p02, p03, -, -, -, -⟩ := four a0
  have HP2 := hid hQ
  clear hQ hP2 a0
  go_wp2_with fail
  go_region
  all_goals
    go_wp2
    go_ret
    refine ⟨rfl, (HP2.out.set i (by rw [HQ.out]; exact HI.out) ⟨x0, x1, x2, x3⟩).drew, ?_⟩
    exact (Bt.of_below (bgo HB.out (below_one _ _))).trans (Bt.lay _ b i ⟨x0, x1, x2, x3⟩).drew
theorem rpref_at {w : World} {p b : Nat} {L : List Ds} (h : RP w p b L) (f y : Int) :
    Calls Tryd.prog 19 #[.pointer (some ⟨p, 0, none⟩), .int .i64 f, .int .i64 y] w fun x w' => x = .returned (.int .i64 (gE L f y)) ∧ RP w' p b (gL L f y) ∧ Bt b w w' := by
  by_cases hf : 0 ≤ f ∧ f < L.length
  · obtain ⟨i, rfl⟩ := Int.eq_ofNat_of_zero_le hf.1
    have hi : i < L.length := by omega
    have e1 : gE L (i : Int) y = rfE (L.getD i zd) y := if_pos hf
    by_cases hz : rfE (L.getD i zd) y = 0
    · have e2 : gL L (i : Int) y = L.set i (rfD (L.getD i zd) y) := if_pos (e1.trans hz)
      rw [e1, e2, hz]
      exact rpref_ok h y i hi hz
    · have e2 : gL L (i : Int) y = L := if_neg (by rw [e1]; exact hz)
      rw [e1, e2]
      exact (rpref_no h y i hi _ rfl (by simpa using hz)).mono fun x w' ⟨a, b⟩ => ⟨a, h.below b, Bt.of_below b⟩
  · have e1 : gE L f y = 2 := if_neg hf
    have e2 : gL L f y = L := if_neg (by rw [e1]; decide)
    rw [e1, e2]
    refine (rpref_out h f y hf).mono ?_
    rintro x w' ⟨a, rfl⟩
    exact ⟨a, h, Bt.refl _ _⟩

set_option maxHeartbeats 1000000 in
theorem rgive_at {w : World} {p b : Nat} {L : List Ds} (h : RP w p b L) (f : Int) :
    Calls Tryd.prog 15 #[.pointer (some ⟨p, 0, none⟩), .int .i64 f] w fun x w' => x = .returned (.int .i64 (tE L f 0 0)) ∧ RP w' p b (tL L f 0 0) ∧ Bt b w w' := by
  have HC := hid (rturn_at h f 0 0)
  clear h
  go_enter Tryd.func15, Tryd.ntmps15
  go_wp2_with fail
  refine HC.out.mono ?_
  rintro x w' ⟨rfl, hP, hB⟩
  go_wp2
  go_ret
  exact ⟨rfl, hP, hB⟩

/-- No frame among the first k is free: the first free one. -/
theorem fr_head {L : List Ds} {j : Nat} (hj : j < L.length) (hn : ∀ i, i < j → isK 0 (L.getD i zd) = false) (hy : isK 0 (L.getD j zd) = true) : ∃ q, fr L = j :: q := by
  have h0 : upW (isK 0) L j = [] := List.filter_eq_nil_iff.2 fun i hi => by
    have := hn i (List.mem_range.1 hi)
    rw [this]; decide
  have h1 := upW_yes hy
  rw [h0, List.nil_append] at h1
  obtain ⟨q, hq⟩ := upW_pre (isK 0) L (j + 1) hj
  exact ⟨q, by show wh (isK 0) L = _; rw [← hq, h1]; rfl⟩
theorem fr_none {L : List Ds} (hn : ∀ i, i < L.length → isK 0 (L.getD i zd) = false) : fr L = [] := List.filter_eq_nil_iff.2 fun i hi => by
  have := hn i (List.mem_range.1 hi)
  rw [this]; decide

set_option maxRecDepth 100000 in
set_option maxHeartbeats 1000000 in
theorem rtake_at {w : World} {p b : Nat} {L : List Ds} (h : RP w p b L) (k o : Int) :
    Calls Tryd.prog 13 #[.pointer (some ⟨p, 0, none⟩), .int .i64 k, .int .i64 o] w fun x w' => x = .returned (.tuple #[.int .i64 (kF L k o), .int .i64 (kE L k o)]) ∧ RP w' p b (kL L k o) ∧ Bt b w w' := by
  have HP := hid h
  obtain ⟨c, hc⟩ := h.slice
  have hn : L.length < 65536 := by have := h.top; omega
  have HCell := hid (fun i hi => (h.cells i hi).1)
  clear h
  generalize hq : L.length = n at hc hn
  have HQ := hid hq
  clear hq
  go_enter Tryd.func13, Tryd.ntmps13
  go_wp2
  go_loop [8] (fun i => ∃ j : Nat, j ≤ n ∧ i = .int .i64 (j : Nat) ∧ Hid (∀ i, i < j → isK 0 (L.getD i zd) = false)) (fun i => n - (intOf i).toNat)
  case atStart => exact ⟨0, Nat.zero_le _, rfl, fun i hi => absurd hi (by omega)⟩
  case round =>
    obtain ⟨j, hj, rfl, HN⟩ := hrel
    by_cases hlt : j < n
    · have c0 := HCell.out j (by rw [HQ.out]; exact hlt)
      cases hy : isK 0 (L.getD j zd)
      · have HY := hid hy
        have hy' : ((L.getD j zd).k == 0) = false := hy
        generalize (L.getD j zd).k = y0 at c0 hy'
        clear hy
        go_wp2
        go_round
        case rel => exact ⟨j + 1, by omega, by go_num, fun i hi => by
          by_cases e : i = j
          · subst e; exact HY.out
          · exact HN.out i (by omega)⟩
        case measure => simp [intOf]; omega
      · obtain ⟨q, hfr⟩ := fr_head (by rw [HQ.out]; exact hlt) HN.out hy
        have hy' : ((L.getD j zd).k == 0) = true := hy
        have eF : kF L k o = if tE L (j : Nat) k o = 0 then (j : Int) else 0 := by unfold kF; rw [hfr]
        have eE : kE L k o = tE L (j : Nat) k o := by unfold kE; rw [hfr]
        have eL : kL L k o = tL L (j : Nat) k o := by unfold kL; rw [hfr]
        have HL := hid eL
        have HF := hid eF
        have HE := hid eE
        have HC := hid (rturn_at HP.out (j : Nat) k o)
        generalize (L.getD j zd).k = y0 at c0 hy'
        have hy'' : y0 = 0 := eq_of_beq hy'
        subst hy''
        clear hy hfr eF eE eL hy'
        by_cases hz : tE L (j : Nat) k o = 0
        · rw [hz] at HC
          have HZ := hid hz
          clear hz
          go_wp2_with fail
          refine HC.out.mono ?_
          rintro x w2 ⟨rfl, hP2, hB2⟩
          go_wp2
          go_ret2
          exact ⟨by rw [HF.out, HE.out, HZ.out]; rfl, by rw [HL.out]; exact hP2, hB2⟩
        · have hz' : (tE L (j : Nat) k o != 0) = true := by simpa using hz
          have HF' : Hid (kF L k o = 0) := hid (by rw [HF.out, if_neg hz])
          clear hz HF
          obtain ⟨e', he⟩ : ∃ e', tE L (j : Nat) k o = e' := ⟨_, rfl⟩
          rw [he] at HC HE hz'
          clear he
          go_wp2_with fail
          refine HC.out.mono ?_
          rintro x w2 ⟨rfl, hP2, hB2⟩
          go_wp2
          go_ret2
          exact ⟨by rw [HF'.out, HE.out]; rfl, by rw [HL.out]; exact hP2, hB2⟩
    · have hfr := fr_none (L := L) (fun i hi => HN.out i (by have := HQ.out; omega))
      have eF : kF L k o = 0 := by unfold kF; rw [hfr]
      have eE : kE L k o = 12 := by unfold kE; rw [hfr]
      have eL : kL L k o = L := by unfold kL; rw [hfr]
      have HF := hid eF
      have HE := hid eE
      have HL := hid eL
      clear hfr eF eE eL
      go_wp2
      go_ret2
      exact ⟨by rw [HF.out, HE.out]; rfl, by rw [HL.out]; exact HP.out, Bt.refl _ _⟩

set_option maxRecDepth 100000 in
set_option maxHeartbeats 1000000 in
theorem rcount_at {w : World} {p b : Nat} {L : List Ds} (h : RP w p b L) (k : Int) :
    Calls Tryd.prog 24 #[.pointer (some ⟨p, 0, none⟩), .int .i64 k] w fun x w' => x = .returned (.int .i64 (cK L k : Nat)) ∧ w' = w := by
  obtain ⟨c, hc⟩ := h.slice
  have hn : L.length < 65536 := by have := h.top; omega
  have HCell := hid (fun i hi => (h.cells i hi).1)
  clear h
  generalize hq : L.length = n at hc hn
  have HQ := hid hq
  clear hq
  go_enter Tryd.func24, Tryd.ntmps24
  go_wp2
  go_loop [5, 6] (fun m i => ∃ j q : Nat, j ≤ n ∧ i = .int .i64 (j : Nat) ∧ m = .int .i64 (q : Nat) ∧ q ≤ j ∧ Hid ((upW (isK k) L j).length = q)) (fun _ i => n - (intOf i).toNat)
  case atStart => exact ⟨0, 0, Nat.zero_le _, rfl, rfl, Nat.le_refl _, rfl⟩
  case round =>
    obtain ⟨j, q, hj, rfl, rfl, hqj, HU⟩ := hrel
    by_cases hlt : j < n
    · have c0 := HCell.out j (by rw [HQ.out]; exact hlt)
      cases hy : isK k (L.getD j zd)
      · have HY := hid (upW_no hy)
        have hy' : ((L.getD j zd).k == k) = false := hy
        generalize (L.getD j zd).k = y0 at c0 hy'
        clear hy
        go_wp2
        go_round
        case rel => exact ⟨j + 1, q, by omega, by go_num, rfl, by omega, by rw [HY.out]; exact HU⟩
        case measure => simp [intOf]; omega
      · have HY := hid (upW_yes hy)
        have hy' : ((L.getD j zd).k == k) = true := hy
        generalize (L.getD j zd).k = y0 at c0 hy'
        clear hy
        go_wp2
        go_round
        case rel => exact ⟨j + 1, q + 1, by omega, by go_num, by go_num, by omega, by rw [HY.out, List.length_append, HU.out]; rfl⟩
        case measure => simp [intOf]; omega
    · have hjn : j = n := by omega
      subst hjn
      have hA : q = cK L k := by rw [← HU.out]; unfold cK; rw [← upW_all, HQ.out]
      have HA := hid hA
      clear hA
      go_wp2
      go_ret
      exact ⟨by rw [← HA.out]; rfl, rfl⟩

set_option maxRecDepth 100000 in
set_option maxHeartbeats 1000000 in
theorem rowned_at {w : World} {p b : Nat} {L : List Ds} (h : RP w p b L) (k : Int) :
    Calls Tryd.prog 27 #[.pointer (some ⟨p, 0, none⟩), .int .i64 k] w fun x w' => ∃ v, x = .returned v ∧ w'.ownsRow w.heap.size 3 1 v (oL L k).length (ints (oL L k)) ∧ Below w.heap.size w w' := by
  have HP := hid h
  have hn : L.length < 65536 := by have := h.top; omega
  obtain ⟨i0, hi, hz0, hz1, hz2⟩ := info_parts info3
  clear h
  generalize hq : L.length = n at hn
  have HQ := hid hq
  clear hq
  go_enter Tryd.func27, Tryd.ntmps27
  go_wp2
  go_loopw [5, 6] (fun v i wr => ∃ j : Nat, j ≤ n ∧ i = .int .i64 (j : Nat) ∧ wr.ownsRow w.heap.size 3 1 v (upW (isO k) L j).length (ints (upW (isO k) L j)) ∧ Below w.heap.size w wr) (fun _ i _ => n - (intOf i).toNat)
  case atStart => exact ⟨0, Nat.zero_le _, rfl, World.ownsRow_nil _ _ _ _, Below.refl _ _⟩
  case round =>
    obtain ⟨j, hj, rfl, hrow, hB⟩ := hrel
    have hPr := HP.out.below hB
    obtain ⟨c, hc⟩ := hPr.slice
    rw [HQ.out] at hc
    have HB := hid hB
    have HR := hid hrow
    by_cases hlt : j < n
    · obtain ⟨_, c1, _, _⟩ := hPr.cells j (by rw [HQ.out]; exact hlt)
      cases hy : isO k (L.getD j zd)
      · have HY := hid (upW_no hy)
        have hy' : ((L.getD j zd).o == k) = false := hy
        generalize (L.getD j zd).o = y0 at c1 hy'
        clear hy hrow hB hPr
        go_wp2
        go_roundw
        case rel => exact ⟨j + 1, by omega, by go_num, by rw [HY.out]; exact HR.out, HB.out⟩
        case measure => simp [intOf]; omega
      · have HY := hid (upW_yes hy)
        have hy' : ((L.getD j zd).o == k) = true := hy
        have hul := upW_len (isO k) L j
        generalize (L.getD j zd).o = y0 at c1 hy'
        clear hy hB hPr hrow
        have HS := hid HB.out.size
        generalize upW (isO k) L j = us at *
        go_wp2_with (at_builtin; refine wpList_append_own _ rfl _ _ 50 rfl w.heap.size 3 i0 (.int .i64 0) 1 8 Tryd.underlying50 hi hz0 hz1 hz2 rfl (by decide) _ us.length _ rfl (HR.out.alloc _) ⟨wr.heap.size, 0, none⟩ 1 1 [.int .i64 (j : Nat)] rfl rfl (cell_one_new _ _ _) (by simp [Value.oneCell']) (by unfold maxLen; omega) (by omega) (by have := HS.out; simp; omega) ?_)
        intro v' w1 hown hgrow _
        have HO := hid hown
        have HG := hid hgrow
        clear hown hgrow
        go_wp2
        go_roundw
        case rel =>
          refine ⟨j + 1, by omega, by go_num, by rw [HY.out]; simpa [ints] using HO.out, ?_⟩
          exact (HB.out.alloc HS.out _).grown HG.out (by have := HS.out; simp; omega) (fun g hg => (HR.out.lt g hg).1)
        case measure => simp [intOf]; omega
    · have hjn : j = n := by omega
      subst hjn
      have hA : upW (isO k) L j = oL L k := by rw [← HQ.out]; exact upW_all _ _
      rw [hA] at HR
      clear hA hrow hB hPr
      have HRO := HR
      go_wp2
      go_ret
      exact ⟨_, rfl, HRO.out, HB.out⟩
end Go.Proofs.YtgajjaibljmikaaDoor
