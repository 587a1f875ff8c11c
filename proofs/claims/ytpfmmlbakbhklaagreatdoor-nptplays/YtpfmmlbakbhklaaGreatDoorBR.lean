/- What each call of the document's answer of layer 9 (Turn, Give, Ref, Take, Count, Owned) returns and leaves, for every pool whose descriptors lie in memory and every number: the same functions as the program's. What the document's New returns and leaves: the same words and frames as the program's. Conditions: the words and frames lie in memory; few calls have been counted. What the document's New returns and leaves: the same words and frames as the program's. Conditions: the words and frames lie in memory; few calls have been counted. What Begin returns and leaves: words and frames of the program and of the document's answer, the same ones, and two guests' tables of each. Condition: the rules lie in their variable. What Begin returns and leaves: words and frames of the program and of the document's answer, the same ones, and two guests' tables of each. Condition: the rules lie in their variable. -/
import Derived.Test.YtpfmmlbakbhklaaGreatDoorBG
import Derived.Test.YtpfmmlbakbhklaaGreatDoorBE
import Derived.Test.YtpfmmlbakbhklaaGreatDoorBN
import Derived.Test.YtpfmmlbakbhklaaGreatDoorBO
import Derived.Maps.AppendAt
namespace Go.Proofs.YtpfmmlbakbhklaaGreatDoor.O
open Go.RowKit

theorem size91' : (Tryz.prog.info? 91).map (·.size) = some 4 := by kernel_rfl

set_option maxRecDepth 100000 in
set_option maxHeartbeats 1000000 in
theorem rturn_out {w : World} {p b : Nat} {L : List Ds} (h : RP w p b L) (f k o : Int) (hf : ¬ (0 ≤ f ∧ f < L.length)) :
    Calls Tryz.prog 82 #[.pointer (some ⟨p, 0, none⟩), .int .i64 f, .int .i64 k, .int .i64 o] w fun x w' => x = .returned (.int .i64 2) ∧ w' = w := by
  obtain ⟨c, hc⟩ := h.slice
  clear h
  generalize L.length = n at hc hf
  by_cases h0 : f < 0
  · go_enter Tryz.func82, Tryz.ntmps82
    go_wp2
    go_ret
    exact ⟨rfl, rfl⟩
  · have h1 : (n : Int) ≤ f := by omega
    clear hf
    go_enter Tryz.func82, Tryz.ntmps82
    go_wp2
    go_ret
    exact ⟨rfl, rfl⟩
set_option maxRecDepth 100000 in
set_option maxHeartbeats 1000000 in
theorem rturn_no {w : World} {p b : Nat} {L : List Ds} (h : RP w p b L) (k o : Int) (i : Nat) (hi : i < L.length) (e' : Int) (hE : nxE (L.getD i zd) k o = e') (hne : (e' == 0) = false) :
    Calls Tryz.prog 82 #[.pointer (some ⟨p, 0, none⟩), .int .i64 i, .int .i64 k, .int .i64 o] w fun x w' => x = .returned (.int .i64 e') ∧ Below w.heap.size w w' := by
  obtain ⟨c, hc⟩ := h.slice
  obtain ⟨c0, c1, c2, c3⟩ := h.cells i hi
  have hn : L.length < 65536 := by have := h.top; omega
  have hC := rnext_at ⟨(L.getD i zd).k, (L.getD i zd).o, (L.getD i zd).r, (L.getD i zd).e⟩ k o w
  have hE' : nxE ⟨(L.getD i zd).k, (L.getD i zd).o, (L.getD i zd).r, (L.getD i zd).e⟩ k o = e' := hE
  rw [hE'] at hC
  generalize nx ⟨(L.getD i zd).k, (L.getD i zd).o, (L.getD i zd).r, (L.getD i zd).e⟩ k o = d' at hC
  obtain ⟨x0, x1, x2, x3⟩ := d'
  generalize (L.getD i zd).k = y0 at *
  generalize (L.getD i zd).o = y1 at *
  generalize (L.getD i zd).r = y2 at *
  generalize (L.getD i zd).e = y3 at *
  have HC := hid hC
  clear hC hE hE' h
  have h0 : ¬ (i : Int) < 0 := by omega
  have h1 : ¬ (L.length : Int) ≤ i := by omega
  generalize L.length = n at *
  go_enter Tryz.func82, Tryz.ntmps82
  go_wp2_with fail
  refine HC.out.mono ?_
  rintro x w2 ⟨rfl, hB⟩
  have HB := hid hB
  clear hB
  (try unfold two)
  (try unfold dV)
  (try simp only [])
  go_wp2
  go_ret
  exact ⟨rfl, bgo HB.out (below_one _ _)⟩
set_option maxRecDepth 100000 in
set_option maxHeartbeats 1000000 in
theorem rturn_ok {w : World} {p b : Nat} {L : List Ds} (h : RP w p b L) (k o : Int) (i : Nat) (hi : i < L.length) (hE : nxE (L.getD i zd) k o = 0) :
    Calls Tryz.prog 82 #[.pointer (some ⟨p, 0, none⟩), .int .i64 i, .int .i64 k, .int .i64 o] w fun x w' => x = .returned (.int .i64 0) ∧ RP w' p b (L.set i (nxD (L.getD i zd) k o)) ∧ Bt b w w' := by
  have HP := hid h
  have HI := hid hi
  obtain ⟨c, hc⟩ := h.slice
  obtain ⟨c0, c1, c2, c3⟩ := h.cells i hi
  have hn : L.length < 65536 := by have := h.top; omega
  have hC := rnext_at ⟨(L.getD i zd).k, (L.getD i zd).o, (L.getD i zd).r, (L.getD i zd).e⟩ k o w
  have hE' : nxE ⟨(L.getD i zd).k, (L.getD i zd).o, (L.getD i zd).r, (L.getD i zd).e⟩ k o = 0 := hE
  have hD : nx ⟨(L.getD i zd).k, (L.getD i zd).o, (L.getD i zd).r, (L.getD i zd).e⟩ k o = nxD (L.getD i zd) k o := nx_ok hE'
  rw [hE', hD] at hC
  generalize nxD (L.getD i zd) k o = d' at hC ⊢
  obtain ⟨x0, x1, x2, x3⟩ := d'
  generalize (L.getD i zd).k = y0 at *
  generalize (L.getD i zd).o = y1 at *
  generalize (L.getD i zd).r = y2 at *
  generalize (L.getD i zd).e = y3 at *
  have HC := hid hC
  clear hC hE hE' h hD
  have h0 : ¬ (i : Int) < 0 := by omega
  have h1 : ¬ (L.length : Int) ≤ i := by omega
  generalize hq : L.length = n at *
  have HQ := hid hq
  clear hq
  go_enter Tryz.func82, Tryz.ntmps82
  go_wp2_with fail
  refine HC.out.mono ?_
  rintro x w2 ⟨rfl, hB⟩
  have hP2 := (HP.out.below hB).alloc (.cells #[.int .i64 x0, .int .i64 x1, .int .i64 x2, .int .i64 x3] 91)
  have hQ := hP2
  have HB := hid hB
  clear hB c0 c1 c2 c3 hc
  (try unfold two)
  (try unfold dV)
  (try simp only [])
  obtain ⟨c, hc⟩ := hP2.slice
  rw [HQ.out] at hc
  have f0 := hP2.free (i * 4)
  have f1 := hP2.free (i * 4 + 1)
  have f2 := hP2.free (i * 4 + 2)
  have f3 := hP2.free (i * 4 + 3)
  obtain ⟨c0, c1, c2, c3⟩ := hP2.cells i (by rw [HQ.out]; exact HI.out)
  have a0 := heap_alloc_new w2 (.cells #[.int .i64 x0, .int .i64 x1, .int .i64 x2, .int .i64 x3] 91)
  obtain ⟨p00, p01, p02, p03, -, -, -, -⟩ := four a0
  have HP2 := hid hQ
  clear hQ hP2 a0
  go_wp2_with fail
  go_region
  all_goals
    go_wp2
    go_ret
    refine ⟨rfl, (HP2.out.set i (by rw [HQ.out]; exact HI.out) ⟨x0, x1, x2, x3⟩).drew, ?_⟩
    exact (Bt.of_below (bgo HB.out (below_one _ _))).trans (Bt.lay _ b i ⟨x0, x1, x2, x3⟩).drew
theorem rturn_at {w : World} {p b : Nat} {L : List Ds} (h : RP w p b L) (f k o : Int) :
    Calls Tryz.prog 82 #[.pointer (some ⟨p, 0, none⟩), .int .i64 f, .int .i64 k, .int .i64 o] w fun x w' => x = .returned (.int .i64 (tE L f k o)) ∧ RP w' p b (tL L f k o) ∧ Bt b w w' := by
  by_cases hf : 0 ≤ f ∧ f < L.length
  · obtain ⟨i, rfl⟩ := Int.eq_ofNat_of_zero_le hf.1
    have hi : i < L.length := by omega
    have e1 : tE L (i : Int) k o = nxE (L.getD i zd) k o := if_pos hf
    by_cases hz : nxE (L.getD i zd) k o = 0
    · have e2 : tL L (i : Int) k o = L.set i (nxD (L.getD i zd) k o) := if_pos (e1.trans hz)
      rw [e1, e2, hz]
      exact rturn_ok h k o i hi hz
    · have e2 : tL L (i : Int) k o = L := if_neg (by rw [e1]; exact hz)
      rw [e1, e2]
      exact (rturn_no h k o i hi _ rfl (by simpa using hz)).mono fun x w' ⟨a, b⟩ => ⟨a, h.below b, Bt.of_below b⟩
  · have e1 : tE L f k o = 2 := if_neg hf
    have e2 : tL L f k o = L := if_neg (by rw [e1]; decide)
    rw [e1, e2]
    refine (rturn_out h f k o hf).mono ?_
    rintro x w' ⟨a, rfl⟩
    exact ⟨a, h, Bt.refl _ _⟩

/-- No frame among the first k is free: the first free one. -/
theorem fr_head {L : List Ds} {j : Nat} (hj : j < L.length) (hn : ∀ i, i < j → isK 0 (L.getD i zd) = false) (hy : isK 0 (L.getD j zd) = true) : ∃ q, fr L = j :: q := by
  have h0 : upW (isK 0) L j = [] := List.filter_eq_nil_iff.2 fun i hi => by
    have := hn i (List.mem_range.1 hi)
    rw [this]; decide
  have h1 := upW_yes hy
  rw [h0, List.nil_append] at h1
  obtain ⟨q, hq⟩ := upW_pre (isK 0) L (j + 1) hj
  exact ⟨q, by show wh (isK 0) L = _; rw [← hq, h1]; rfl⟩
theorem fr_none {L : List Ds} (hn : ∀ i, i < L.length → isK 0 (L.getD i zd) = false) : fr L = [] := List.filter_eq_nil_iff.2 fun i hi => by
  have := hn i (List.mem_range.1 hi)
  rw [this]; decide

set_option maxRecDepth 100000 in
set_option maxHeartbeats 1000000 in
theorem rtake_at {w : World} {p b : Nat} {L : List Ds} (h : RP w p b L) (k o : Int) :
    Calls Tryz.prog 74 #[.pointer (some ⟨p, 0, none⟩), .int .i64 k, .int .i64 o] w fun x w' => x = .returned (.tuple #[.int .i64 (kF L k o), .int .i64 (kE L k o)]) ∧ RP w' p b (kL L k o) ∧ Bt b w w' := by
  have HP := hid h
  obtain ⟨c, hc⟩ := h.slice
  have hn : L.length < 65536 := by have := h.top; omega
  have HCell := hid (fun i hi => (h.cells i hi).1)
  clear h
  generalize hq : L.length = n at hc hn
  have HQ := hid hq
  clear hq
  go_enter Tryz.func74, Tryz.ntmps74
  go_wp2
  go_loop [8] (fun i => ∃ j : Nat, j ≤ n ∧ i = .int .i64 (j : Nat) ∧ Hid (∀ i, i < j → isK 0 (L.getD i zd) = false)) (fun i => n - (intOf i).toNat)
  case atStart => exact ⟨0, Nat.zero_le _, rfl, fun i hi => absurd hi (by omega)⟩
  case round =>
    obtain ⟨j, hj, rfl, HN⟩ := hrel
    by_cases hlt : j < n
    · have c0 := HCell.out j (by rw [HQ.out]; exact hlt)
      cases hy : isK 0 (L.getD j zd)
      · have HY := hid hy
        have hy' : ((L.getD j zd).k == 0) = false := hy
        generalize (L.getD j zd).k = y0 at c0 hy'
        clear hy
        go_wp2
        go_round
        case rel => exact ⟨j + 1, by omega, by go_num, fun i hi => by
          by_cases e : i = j
          · subst e; exact HY.out
          · exact HN.out i (by omega)⟩
        case measure => simp [intOf]; omega
      · obtain ⟨q, hfr⟩ := fr_head (by rw [HQ.out]; exact hlt) HN.out hy
        have hy' : ((L.getD j zd).k == 0) = true := hy
        have eF : kF L k o = if tE L (j : Nat) k o = 0 then (j : Int) else 0 := by unfold kF; rw [hfr]
        have eE : kE L k o = tE L (j : Nat) k o := by unfold kE; rw [hfr]
        have eL : kL L k o = tL L (j : Nat) k o := by unfold kL; rw [hfr]
        have HL := hid eL
        have HF := hid eF
        have HE := hid eE
        have HC := hid (rturn_at HP.out (j : Nat) k o)
        generalize (L.getD j zd).k = y0 at c0 hy'
        have hy'' : y0 = 0 := eq_of_beq hy'
        subst hy''
        clear hy hfr eF eE eL hy'
        by_cases hz : tE L (j : Nat) k o = 0
        · rw [hz] at HC
          have HZ := hid hz
          clear hz
          go_wp2_with fail
          refine HC.out.mono ?_
          rintro x w2 ⟨rfl, hP2, hB2⟩
          go_wp2
          go_ret2
          exact ⟨by rw [HF.out, HE.out, HZ.out]; rfl, by rw [HL.out]; exact hP2, hB2⟩
        · have hz' : (tE L (j : Nat) k o != 0) = true := by simpa using hz
          have HF' : Hid (kF L k o = 0) := hid (by rw [HF.out, if_neg hz])
          clear hz HF
          obtain ⟨e', he⟩ : ∃ e', tE L (j : Nat) k o = e' := ⟨_, rfl⟩
          rw [he] at HC HE hz'
          clear he
          go_wp2_with fail
          refine HC.out.mono ?_
          rintro x w2 ⟨rfl, hP2, hB2⟩
          go_wp2
          go_ret2
          exact ⟨by rw [HF'.out, HE.out]; rfl, by rw [HL.out]; exact hP2, hB2⟩
    · have hfr := fr_none (L := L) (fun i hi => HN.out i (by have := HQ.out; omega))
      have eF : kF L k o = 0 := by unfold kF; rw [hfr]
      have eE : kE L k o = 12 := by unfold kE; rw [hfr]
      have eL : kL L k o = L := by unfold kL; rw [hfr]
      have HF := hid eF
      have HE := hid eE
      have HL := hid eL
      clear hfr eF eE eL
      go_wp2
      go_ret2
      exact ⟨by rw [HF.out, HE.out]; rfl, by rw [HL.out]; exact HP.out, Bt.refl _ _⟩

set_option maxRecDepth 100000 in
set_option maxHeartbeats 1000000 in
theorem rcount_at {w : World} {p b : Nat} {L : List Ds} (h : RP w p b L) (k : Int) :
    Calls Tryz.prog 113 #[.pointer (some ⟨p, 0, none⟩), .int .i64 k] w fun x w' => x = .returned (.int .i64 (cK L k : Nat)) ∧ w' = w := by
  obtain ⟨c, hc⟩ := h.slice
  have hn : L.length < 65536 := by have := h.top; omega
  have HCell := hid (fun i hi => (h.cells i hi).1)
  clear h
  generalize hq : L.length = n at hc hn
  have HQ := hid hq
  clear hq
  go_enter Tryz.func113, Tryz.ntmps113
  go_wp2
  go_loop [5, 6] (fun m i => ∃ j q : Nat, j ≤ n ∧ i = .int .i64 (j : Nat) ∧ m = .int .i64 (q : Nat) ∧ q ≤ j ∧ Hid ((upW (isK k) L j).length = q)) (fun _ i => n - (intOf i).toNat)
  case atStart => exact ⟨0, 0, Nat.zero_le _, rfl, rfl, Nat.le_refl _, rfl⟩
  case round =>
    obtain ⟨j, q, hj, rfl, rfl, hqj, HU⟩ := hrel
    by_cases hlt : j < n
    · have c0 := HCell.out j (by rw [HQ.out]; exact hlt)
      cases hy : isK k (L.getD j zd)
      · have HY := hid (upW_no hy)
        have hy' : ((L.getD j zd).k == k) = false := hy
        generalize (L.getD j zd).k = y0 at c0 hy'
        clear hy
        go_wp2
        go_round
        case rel => exact ⟨j + 1, q, by omega, by go_num, rfl, by omega, by rw [HY.out]; exact HU⟩
        case measure => simp [intOf]; omega
      · have HY := hid (upW_yes hy)
        have hy' : ((L.getD j zd).k == k) = true := hy
        generalize (L.getD j zd).k = y0 at c0 hy'
        clear hy
        go_wp2
        go_round
        case rel => exact ⟨j + 1, q + 1, by omega, by go_num, by go_num, by omega, by rw [HY.out, List.length_append, HU.out]; rfl⟩
        case measure => simp [intOf]; omega
    · have hjn : j = n := by omega
      subst hjn
      have hA : q = cK L k := by rw [← HU.out]; unfold cK; rw [← upW_all, HQ.out]
      have HA := hid hA
      clear hA
      go_wp2
      go_ret
      exact ⟨by rw [← HA.out]; rfl, rfl⟩

end Go.Proofs.YtpfmmlbakbhklaaGreatDoor.O
namespace Go.Proofs.YtpfmmlbakbhklaaGreatDoor
open Go.RowKit
/-- The document's tables lie in block t. -/
def IsU (u : Si) (w : World) (t : Nat) (o root : Int) (dr : Bool) : Prop :=
  w.heap[t]? = some (.cells #[.pointer (some ⟨u.mp, 0, none⟩), .pointer (some ⟨u.pp, 0, none⟩), .int .i64 o, .int .i64 root, .bool dr] 101 (0, 0))
theorem at_zero {f i : Nat} (hf : f ≤ 4095) (hi : i < 16) : P.at' (f : Int) (i : Int) 0 = 16 * (f : Int) + (i : Int) := by
  have hx : ∀ j : Fin 16, P.ix ((j : Nat) : Int) 0 = ((j : Nat) : Int) := by decide +kernel
  have hx := hx ⟨i, hi⟩
  simp only at hx
  unfold P.at'
  rw [hx, P.btw_t (by omega) (by omega)]
  simp
theorem newF_in {s : Sm} {o : Int} (h : newE s o = 0) : ∃ f : Nat, newF s o = f ∧ f < s.ds.length := by
  unfold newE O.kE at h
  unfold newF O.kF
  cases hf : O.fr s.ds with
  | nil => rw [hf] at h; simp at h
  | cons f q =>
    rw [hf] at h
    simp only at h ⊢
    have hm : f ∈ O.fr s.ds := by rw [hf]; exact List.mem_cons_self ..
    refine ⟨f, ?_, ?_⟩
    · first | rfl | rw [if_pos h] | simp [h]
    · unfold O.fr at hm
      simpa using (List.mem_filter.1 hm).1
section
variable {u : Si} {w w' : World} {t : Nat} {o root : Int} {dr : Bool} {s : Sm} {k : Nat}
theorem IsU.cells (h : IsU u w t o root dr) : w.cell? ⟨t, 0, none⟩ = some (.pointer (some ⟨u.mp, 0, none⟩)) ∧ w.cell? ⟨t, 1, none⟩ = some (.pointer (some ⟨u.pp, 0, none⟩)) ∧ w.cell? ⟨t, 2, none⟩ = some (.int .i64 o) ∧ w.cell? ⟨t, 3, none⟩ = some (.int .i64 root) ∧ w.cell? ⟨t, 4, none⟩ = some (.bool dr) :=
  ⟨P.cell_of h rfl, P.cell_of h rfl, P.cell_of h rfl, P.cell_of h rfl, P.cell_of h rfl⟩
theorem IsU.below (h : IsU u w t o root dr) (b : Below w.heap.size w w') : IsU u w' t o root dr := (b.block _ (lt_of_block h)).trans h
theorem Wg.apartR (h : Wr u w s k) {q : Nat} {c : Array Value} {T : TypeId} (hq : w.heap[q]? = some (.cells c T (0, 0))) (h1 : T ≠ 87) (h2 : T ≠ 67) (h3 : T ≠ 91) : q ≠ u.mp ∧ q ≠ u.wb ∧ q ≠ u.pb := by
  obtain ⟨d, l, hm, -⟩ := h.mem
  refine ⟨fun e => ?_, fun e => ?_, fun e => ?_⟩
  · rw [e, hm.head] at hq; injection hq with hq; injection hq with _ hq _; exact h1 hq.symm
  · rw [e] at hq; rw [show w.heap[u.wb]? = _ from hm.row] at hq; injection hq with hq; injection hq with _ hq _; exact h2 hq.symm
  · obtain ⟨r, hr⟩ := h.pool.row
    rw [e, hr] at hq; injection hq with hq; injection hq with _ hq _; exact h3 hq.symm
theorem Wg.keepR (h : Wr u w s k) (hC : Ch u w w') {q : Nat} {c : Array Value} {T : TypeId} (hq : w.heap[q]? = some (.cells c T (0, 0))) (h1 : T ≠ 87) (h2 : T ≠ 67) (h3 : T ≠ 91) : w'.heap[q]? = some (.cells c T (0, 0)) := by
  obtain ⟨a, b, c⟩ := h.apartR hq h1 h2 h3
  exact (hC.block q (lt_of_block hq) a b c).trans hq
theorem IsU.ch (h : IsU u w t o root dr) (hW : Wr u w s k) (hC : Ch u w w') : IsU u w' t o root dr := hW.keepR hC h (by decide) (by decide) (by decide)
theorem Wg.rstore_at (h : Wr u w s k) (hk : k ≤ bnd) (a v : Int) (hv : 0 ≤ v ∧ v < 18446744073709551616) :
    Calls Tryz.prog 79 #[.pointer (some ⟨u.mp, 0, none⟩), .int .i64 a, .int .u64 v] w fun e w' => (∃ x, e = .returned (.int .i64 x)) ∧ Wr u w' ⟨setW s.xs a v, s.ds⟩ (k + 1) ∧ Ch u w w' := by
  obtain ⟨d, l, hm, hd⟩ := h.mem
  refine (rstore_any (s := ⟨s.xs, d, l⟩) hm (k := k) ⟨hd.1, hd.2.1, hd.2.2.1, hd.2.2.2⟩ hk a v).mono ?_
  rintro e w' ⟨rfl, hM, hB⟩
  exact ⟨⟨_, rfl⟩, h.store hd hv hM hB, .of_but hB⟩
set_option maxHeartbeats 1000000 in
theorem zero_at (hT : IsU u w t o root dr) (h : Wr u w s k) (hk : k + 20 ≤ bnd) (f : Nat) (hf : f ≤ 4095) :
    Calls Tryz.prog 75 #[.pointer (some ⟨t, 0, none⟩), .int .i64 f] w fun r w' => r = .returned (.tuple #[]) ∧ Wr u w' ⟨laidK s.xs f none16 16, s.ds⟩ (k + 16) ∧ Ch u w w' := by
  have HT := hid hT
  have HW := hid h
  have HK := hid hk
  have e1 : wrap64 (16 * (f : Int)) = 16 * (f : Int) := by unfold wrap64; omega
  clear hT h hk
  go_enter Tryz.func75, Tryz.ntmps75
  go_wp2
  go_loopw [4] (fun p wr => ∃ i : Nat, p = .int .i64 i ∧ i ≤ 16 ∧ Wr u wr ⟨laidK s.xs f none16 i, s.ds⟩ (k + i) ∧ Ch u w wr) (fun p _ => 16 - (intOf p).toNat)
  case atStart => exact ⟨0, rfl, Nat.zero_le _, HW.out, .refl _ _⟩
  case round =>
    obtain ⟨i, rfl, hi, hWr, hCr⟩ := hrel
    have HWr := hid hWr
    have HCr := hid hCr
    by_cases hlt : i < 16
    · obtain ⟨c0, -⟩ := (HT.out.ch HW.out hCr).cells
      have hlt' : (i : Int) < 16 := by omega
      have e2 : wrap64 (16 * (f : Int) + (i : Int)) = 16 * (f : Int) + (i : Int) := by unfold wrap64; omega
      have HL := hid (show laidK s.xs f none16 (i + 1) = setW (laidK s.xs f none16 i) (16 * (f : Int) + (i : Int)) 0 by
        show setW (laidK s.xs f none16 i) (P.at' f i 0) (P.pk (none16 i)) = _
        rw [at_zero hf hlt]
        show setW _ _ (P.pk P.zd) = _
        rw [pk_zd])
      clear hWr hCr
      go_wp2_with fail
      refine (HWr.out.rstore_at (by have := HK.out; omega) (16 * (f : Int) + (i : Int)) 0 (by decide)).mono ?_
      rintro r w3 ⟨⟨x, rfl⟩, hW3, hC3⟩
      have HW3 := hid hW3
      have HC3 := hid (HCr.out.trans hC3)
      clear hW3 hC3 c0
      go_wp2
      refine ⟨⟨i + 1, by go_num, by omega, ?_, HC3.out⟩, by simp [intOf]; omega⟩
      rw [HL.out]
      exact HW3.out
    · obtain rfl : i = 16 := by omega
      clear hWr hCr
      go_wp2
      go_end0
      exact ⟨rfl, HWr.out, HCr.out⟩
end
end Go.Proofs.YtpfmmlbakbhklaaGreatDoor
namespace Go.Proofs.YtpfmmlbakbhklaaGreatDoor
open Go.RowKit
section
variable {u : Si} {w w' : World} {t : Nat} {o root : Int} {dr : Bool} {s : Sm} {k : Nat}
set_option maxHeartbeats 2000000 in
theorem runew_at (h : Wr u w s k) (hk : k + 20 ≤ bnd) (hn : 16 * s.ds.length ≤ s.xs.length) (o : Int) :
    Calls Tryz.prog 40 #[.pointer (some ⟨u.mp, 0, none⟩), .pointer (some ⟨u.pp, 0, none⟩), .int .i64 o] w fun r w' =>
      r = .returned (.tuple #[.pointer (some ⟨w.heap.size, 0, none⟩), .int .i64 (newE s o)]) ∧ Wr u w' (newS s o none16) (k + 16) ∧ Ch u w w' ∧ IsU u w' w.heap.size o (if newE s o = 0 then newF s o else 0) false := by
  obtain ⟨d, l, hm, -⟩ := h.mem
  have h1 := h.pool.pos
  have h2 := h.pool.top
  have h3 := hm.top
  have HW := hid h
  have hB := below_alloc w (.cells #[.pointer (some ⟨u.mp, 0, none⟩), .pointer (some ⟨u.pp, 0, none⟩), .int .i64 o, .int .i64 0, .bool false] 101)
  have hT0 : IsU u (w.alloc (.cells #[.pointer (some ⟨u.mp, 0, none⟩), .pointer (some ⟨u.pp, 0, none⟩), .int .i64 o, .int .i64 0, .bool false] 101)) w.heap.size o 0 false := heap_alloc_new w _
  have HT0 := hid hT0
  have HB := hid hB
  have hW1 := h.below hB
  obtain ⟨d', l', hm', -⟩ := hW1.mem
  have c0 := hm'.cells.1
  obtain ⟨cp, hcp⟩ := hW1.pool.head
  have c1 := P.cell_of (i := 0) hcp rfl
  have HTK := hid (fun (W : World) (hp : O.IsP 90 91 W u.pp u.pb s.ds) => O.rtake_at hp 3 o)
  have HK := hid hk
  have HSZ := hid (And.intro h2 (And.intro hn h3))
  by_cases hee : newE s o = 0
  · obtain ⟨f, hf, hfl⟩ := newF_in hee
    have hns : newS s o none16 = ⟨laidK s.xs f none16 16, O.kL s.ds 3 o⟩ := by rw [newS_yes hee, hf]
    rw [hns, hee, if_pos rfl, hf]
    have hE : O.kE s.ds 3 o = 0 := hee
    have hF : O.kF s.ds 3 o = f := hf
    rw [hE, hF] at HTK
    have hf4 : f ≤ 4095 := by omega
    have hns : ∃ n m : Nat, s.xs.length = n ∧ s.ds.length = m := ⟨_, _, rfl, rfl⟩
    obtain ⟨n, m, en, em⟩ := hns
    rw [en] at c0 hn h3
    rw [em] at c1 hn h1 h2
    have e1 : wrap64 (16 * (m : Int)) = 16 * (m : Int) := by unfold wrap64; omega
    have e2 : ¬ (n : Int) < 16 * (m : Int) := by omega
    have HW1 := hid hW1
    clear h hm hn h1 hB hT0 hW1 hm' hcp hee hf hfl hE hF hk
    go_enter Tryz.func40, Tryz.ntmps40
    go_wp2
    go_quiet (fail)
    go_wp2_with fail
    have hWd : Wr u ((w.alloc (.cells #[.pointer (some ⟨u.mp, 0, none⟩), .pointer (some ⟨u.pp, 0, none⟩), .int .i64 o, .int .i64 0, .bool false] 101)).drewN nq) s k := HW1.out.below (below_drewN (Below.refl _ _) nq)
    have hBd := HB.out.trans ((below_drewN (Below.refl (w.alloc (.cells #[.pointer (some ⟨u.mp, 0, none⟩), .pointer (some ⟨u.pp, 0, none⟩), .int .i64 o, .int .i64 0, .bool false] 101)).heap.size _) nq).mono HB.out.size)
    have hTd := HT0.out.below (below_drewN (Below.refl _ _) nq)
    have HWd := hid hWd
    have HBd := hid hBd
    have HTd := hid hTd
    clear hBd hTd c0 c1
    refine (HTK.out _ hWd.pool).mono ?_
    rintro e w2 ⟨rfl, hP, hBt⟩
    have HW2 := hid (HWd.out.turn hP hBt)
    have hT2 := HTd.out.ch HWd.out (.of_bt hBt)
    have HT2 := hid hT2
    have HC2 := hid ((Ch.of_below HBd.out).trans (Ch.of_bt (u := u) hBt))
    have f3 : w2.frozen? ⟨w.heap.size, 3, none⟩ = false := P.free_of hT2
    have c3 := hT2.cells.2.2.2.1
    clear hP hBt hT2 hWd
    go_wp2_with fail
    have hb : Below w.heap.size w2 (w2.setCell ⟨w.heap.size, 3, none⟩ (.int .i64 f)) := (Below.refl _ _).setCell (p := ⟨w.heap.size, 3, none⟩) (Nat.le_refl _) _
    have hT3 : IsU u (w2.setCell ⟨w.heap.size, 3, none⟩ (.int .i64 f)) w.heap.size o f false := P.heap_setCell_self HT2.out _
    have HW3 := hid (HW2.out.belowN hb HW.out.lt.1 HW.out.lt.2)
    have HT3 := hid hT3
    have HC3 := hid (HC2.out.below2 hb)
    clear hb hT3 f3 c3
    refine (zero_at HT3.out HW3.out HK.out f hf4).mono ?_
    rintro e w4 ⟨rfl, hW4, hC4⟩
    have HW4 := hid hW4
    have HT4 := hid (HT3.out.ch HW3.out hC4)
    have HC4 := hid (HC3.out.trans hC4)
    clear hW4 hC4
    go_wp2
    go_ret2
    exact ⟨rfl, HW4.out, HC4.out, HT4.out⟩
  · have hns : newS s o none16 = s := newS_no hee
    rw [hns, if_neg hee]
    have hE : O.kE s.ds 3 o = newE s o := rfl
    have hL : O.kL s.ds 3 o = s.ds := kL_no hee
    rw [hE, hL] at HTK
    have hee' : (newE s o != 0) = true := by simpa using hee
    generalize newE s o = ee at *
    generalize O.kF s.ds 3 o = ff at *
    have hns : ∃ n m : Nat, s.xs.length = n ∧ s.ds.length = m := ⟨_, _, rfl, rfl⟩
    obtain ⟨n, m, en, em⟩ := hns
    rw [en] at c0 hn h3
    rw [em] at c1 hn h1 h2
    have e1 : wrap64 (16 * (m : Int)) = 16 * (m : Int) := by unfold wrap64; omega
    have e2 : ¬ (n : Int) < 16 * (m : Int) := by omega
    have HW1 := hid hW1
    clear h hm hn h1 hB hT0 hW1 hm' hcp hee hE hL hk
    go_enter Tryz.func40, Tryz.ntmps40
    go_wp2
    go_quiet (fail)
    go_wp2_with fail
    have hWd : Wr u ((w.alloc (.cells #[.pointer (some ⟨u.mp, 0, none⟩), .pointer (some ⟨u.pp, 0, none⟩), .int .i64 o, .int .i64 0, .bool false] 101)).drewN nq) s k := HW1.out.below (below_drewN (Below.refl _ _) nq)
    have hBd := HB.out.trans ((below_drewN (Below.refl (w.alloc (.cells #[.pointer (some ⟨u.mp, 0, none⟩), .pointer (some ⟨u.pp, 0, none⟩), .int .i64 o, .int .i64 0, .bool false] 101)).heap.size _) nq).mono HB.out.size)
    have hTd := HT0.out.below (below_drewN (Below.refl _ _) nq)
    have HWd := hid hWd
    have HBd := hid hBd
    have HTd := hid hTd
    clear hBd hTd c0 c1
    refine (HTK.out _ hWd.pool).mono ?_
    rintro e w2 ⟨rfl, hP, hBt⟩
    have HW2 := hid (show Wr u w2 s k from HWd.out.turn hP hBt)
    have HT2 := hid (HTd.out.ch HWd.out (.of_bt hBt))
    have HC2 := hid ((Ch.of_below HBd.out).trans (Ch.of_bt (u := u) hBt))
    clear hP hBt hWd
    go_wp2
    go_ret2
    exact ⟨rfl, HW2.out.mono (by omega), HC2.out, HT2.out⟩
end
end Go.Proofs.YtpfmmlbakbhklaaGreatDoor
namespace Go.Proofs.YtpfmmlbakbhklaaGreatDoor
open Go.RowKit
def z0 (n : Nat) : Sm := ⟨List.replicate (16 * n) 0, List.replicate n O.zd⟩
theorem z0_new (n : Nat) : newE (z0 (n + 1)) 1 = 0 := by
  have hf : ∃ q, O.fr (List.replicate (n + 1) O.zd) = 0 :: q := O.fr_head (j := 0) (by simp) (fun i hi => by omega) (by simp; decide)
  obtain ⟨q, hq⟩ := hf
  unfold newE O.kE z0
  simp only
  rw [hq]
  simp only
  have ha : O.at' (List.replicate (n + 1) O.zd) 0 = O.zd := by simp [O.at', List.getD]
  unfold O.tE
  simp [ha]
  decide
section
variable {u v : Si} {w w' : World} {s s' : Sm} {k k' : Nat}
theorem start_o {xs : List Int} {ds : List O.Ds} (hm : IsMem 124 w u.mp u.wb xs 0 0) (hp : O.IsP 129 64 w u.pp u.pb ds) (hT : O.Tab w) (hU : U64 xs) (low : 0 < u.mp ∧ 0 < u.wb ∧ 0 < u.pb ∧ 0 < u.pp) (ne : u.mp ≠ u.pp ∧ u.mp ≠ u.pb ∧ u.wb ≠ u.pp ∧ u.wb ≠ u.pb) : Wo u w ⟨xs, ds⟩ 0 :=
  ⟨⟨0, 0, hm, by omega, by omega, by omega, by omega⟩, hp, hT, hU, low, ne⟩
theorem start_r {xs : List Int} {ds : List O.Ds} (hm : IsMem 87 w u.mp u.wb xs 0 0) (hp : O.IsP 90 91 w u.pp u.pb ds) (hT : O.Tab w) (hU : U64 xs) (low : 0 < u.mp ∧ 0 < u.wb ∧ 0 < u.pb ∧ 0 < u.pp) (ne : u.mp ≠ u.pp ∧ u.mp ≠ u.pb ∧ u.wb ≠ u.pp ∧ u.wb ≠ u.pb) : Wr u w ⟨xs, ds⟩ 0 :=
  ⟨⟨0, 0, hm, by omega, by omega, by omega, by omega⟩, hp, hT, hU, low, ne⟩
theorem Ch.tab (h : Ch u w w') (hT : O.Tab w) (low : 0 < u.mp ∧ 0 < u.wb ∧ 0 < u.pb) : O.Tab w' :=
  hT.below (h.below (B := 1) (by have := hT.pos; omega) low.1 low.2.1 low.2.2) (by omega) h.size
/-- The program's side stays where the document's is turned. -/
theorem Wg.chR (h : Wo u w s k) (hr : Wr v w s' k') (hne : u.wb ≠ v.wb) (hC : Ch v w w') : Wo u w' s k := by
  obtain ⟨d, l, hm, hd⟩ := h.mem
  obtain ⟨c, hh⟩ := h.pool.head
  obtain ⟨r, hb⟩ := h.pool.row
  obtain ⟨d', l', hm', -⟩ := hr.mem
  obtain ⟨r', hb'⟩ := hr.pool.row
  have a1 := hr.apartR hm.head (by decide) (by decide) (by decide)
  have a2 := hr.apartR hh (by decide) (by decide) (by decide)
  have a3 := hr.apartR hb (by decide) (by decide) (by decide)
  have hrow : w.heap[u.wb]? = _ := hm.row
  have b1 : u.wb ≠ v.mp := fun e => by
    rw [e, hm'.head] at hrow; injection hrow with hrow; injection hrow with _ hrow _; cases hrow
  have b3 : u.wb ≠ v.pb := fun e => by
    rw [e, hb'] at hrow; injection hrow with hrow; injection hrow with _ hrow _; cases hrow
  exact ⟨⟨d, l, hm.keep (hC.block _ h.lt.1.1 a1.1 a1.2.1 a1.2.2) (hC.block _ h.lt.1.2 b1 hne b3), hd⟩, h.pool.keep (hC.block _ h.lt.2.1 a2.1 a2.2.1 a2.2.2) (hC.block _ h.lt.2.2 a3.1 a3.2.1 a3.2.2), hC.tab h.tab ⟨hr.low.1, hr.low.2.1, hr.low.2.2.1⟩, h.u64, h.low, h.ne⟩
/-- The document's side stays where the program's is turned. -/
theorem Wg.chO (h : Wr v w s k) (hr : Wo u w s' k') (hne : u.wb ≠ v.wb) (hC : Ch u w w') : Wr v w' s k := by
  obtain ⟨d, l, hm, hd⟩ := h.mem
  obtain ⟨c, hh⟩ := h.pool.head
  obtain ⟨r, hb⟩ := h.pool.row
  obtain ⟨d', l', hm', -⟩ := hr.mem
  obtain ⟨r', hb'⟩ := hr.pool.row
  have a1 := hr.apart hm.head (by decide) (by decide) (by decide)
  have a2 := hr.apart hh (by decide) (by decide) (by decide)
  have a3 := hr.apart hb (by decide) (by decide) (by decide)
  have hrow : w.heap[v.wb]? = _ := hm.row
  have b1 : v.wb ≠ u.mp := fun e => by
    rw [e, hm'.head] at hrow; injection hrow with hrow; injection hrow with _ hrow _; cases hrow
  have b3 : v.wb ≠ u.pb := fun e => by
    rw [e, hb'] at hrow; injection hrow with hrow; injection hrow with _ hrow _; cases hrow
  exact ⟨⟨d, l, hm.keep (hC.block _ h.lt.1.1 a1.1 a1.2.1 a1.2.2) (hC.block _ h.lt.1.2 b1 hne.symm b3), hd⟩, h.pool.keep (hC.block _ h.lt.2.1 a2.1 a2.2.1 a2.2.2) (hC.block _ h.lt.2.2 a3.1 a3.2.1 a3.2.2), hC.tab h.tab ⟨hr.low.1, hr.low.2.1, hr.low.2.2.1⟩, h.u64, h.low, h.ne⟩
/-- A block of another type stays on both sides. -/
theorem Ch.keepB (hC : Ch u w w') (h : Wo u w s k) {q : Nat} {c : Array Value} {T : TypeId} (hq : w.heap[q]? = some (.cells c T (0, 0))) (h1 : T ≠ 124) (h2 : T ≠ 67) (h3 : T ≠ 64) : w'.heap[q]? = some (.cells c T (0, 0)) := h.keep hC hq h1 h2 h3
end
/-- The world of a law: the block g. -/
structure Bg (g : Nat) (u v : Si) (a0 b0 b1 : Nat) (a1 : Option Addr) (w : World) : Prop where
  blk : w.heap[g]? = some (.cells #[.pointer (some ⟨u.mp, 0, none⟩), .pointer (some ⟨u.pp, 0, none⟩), .pointer (some ⟨a0, 0, none⟩), .pointer a1, .pointer (some ⟨v.mp, 0, none⟩), .pointer (some ⟨v.pp, 0, none⟩), .pointer (some ⟨b0, 0, none⟩), .pointer (some ⟨b1, 0, none⟩)] 39 (0, 0))
  ne : u.wb ≠ v.wb
/-- But for the block g the world is as it was. -/
structure Px (g : Nat) (w w' : World) : Prop where
  os : w'.os = w.os
  tape : w'.tape = w.tape
  output : w'.output = w.output
  size : w'.heap.size = w.heap.size
  block : ∀ k, k ≠ g → w'.heap[k]? = w.heap[k]?
theorem Px.refl (g : Nat) (w : World) : Px g w w := ⟨rfl, rfl, rfl, rfl, fun _ _ => rfl⟩
theorem Px.set {g : Nat} {w w' : World} (h : Px g w w') (i : Nat) (v : Value) : Px g w (w'.setCell ⟨g, i, none⟩ v) :=
  have hb : Below 0 w' (w'.setCell ⟨g, i, none⟩ v) := (Below.refl 0 w').setCell (p := ⟨g, i, none⟩) (Nat.zero_le _) v
  ⟨hb.os.trans h.os, hb.tape.trans h.tape, hb.output.trans h.output, (size1 _ _ _).trans h.size, fun k hk => (Below.heap_setCell w' ⟨g, i, none⟩ v k hk).trans (h.block k hk)⟩
theorem Px.below {g n : Nat} {w w' : World} (h : Px g w w') (hn : n ≤ g) : Below n w w' := ⟨h.os, h.tape, h.output, Nat.le_of_eq h.size.symm, fun k hk => h.block k (by omega)⟩
theorem Px.tab {g : Nat} {w w' : World} (h : Px g w w') (hT : O.Tab w) (h0 : g ≠ 0) : O.Tab w' := hT.below (h.below (n := 1) (by omega)) (by decide) (Nat.le_of_eq h.size.symm)
theorem Wg.px {tm tp td : TypeId} {u : Si} {w w' : World} {s : Sm} {k g : Nat} (h : Wg tm tp td u w s k) (p : Px g w w') (h0 : g ≠ 0) (h1 : u.mp ≠ g) (h2 : u.wb ≠ g) (h3 : u.pp ≠ g) (h4 : u.pb ≠ g) : Wg tm tp td u w' s k := by
  obtain ⟨d, l, hm, hd⟩ := h.mem
  exact ⟨⟨d, l, hm.keep (p.block _ h1) (p.block _ h2), hd⟩, h.pool.keep (p.block _ h3) (p.block _ h4), p.tab h.tab h0, h.u64, h.low, h.ne⟩
end Go.Proofs.YtpfmmlbakbhklaaGreatDoor
namespace Go.Proofs.YtpfmmlbakbhklaaGreatDoor
open Go.RowKit
theorem newS_len (s : Sm) (o : Int) : (newS s o none16).xs.length = s.xs.length ∧ (newS s o none16).ds.length = s.ds.length := by
  unfold newS
  split
  · refine ⟨laidK_len _ _ _ _, ?_⟩
    simp only
    unfold O.kL
    split
    · rfl
    · unfold O.tL
      split <;> simp
  · exact ⟨rfl, rfl⟩
section
variable {u : Si} {w : World} {m : Nat}
def s1 (m : Nat) : Sm := newS (z0 (m + 1)) 1 none16
def s2 (m : Nat) : Sm := newS (s1 m) 2 none16
theorem z0_len (m : Nat) : 16 * (z0 (m + 1)).ds.length ≤ (z0 (m + 1)).xs.length := by simp [z0]
theorem s1_len (m : Nat) : 16 * (s1 m).ds.length ≤ (s1 m).xs.length := by
  unfold s1
  rw [(newS_len _ _).1, (newS_len _ _).2]
  exact z0_len m
theorem bo0 (h : Wo u w (z0 (m + 1)) 0) : Calls Tryz.prog 36 #[.pointer (some ⟨u.mp, 0, none⟩), .pointer (some ⟨u.pp, 0, none⟩), .int .i64 1] w fun r w' =>
    r = .returned (.tuple #[.pointer (some ⟨w.heap.size, 0, none⟩), .int .i64 0]) ∧ Wo u w' (s1 m) 16 ∧ Ch u w w' ∧ IsT u w' w.heap.size 1 1 (newF (z0 (m + 1)) 1) := by
  refine (tnew_at h (by decide) (z0_len m) 1).mono ?_
  rintro r w' ⟨rfl, a, b, c⟩
  rw [z0_new, if_pos rfl]
  exact ⟨rfl, a, b, c (z0_new m)⟩
theorem br0 (h : Wr u w (z0 (m + 1)) 0) : Calls Tryz.prog 40 #[.pointer (some ⟨u.mp, 0, none⟩), .pointer (some ⟨u.pp, 0, none⟩), .int .i64 1] w fun r w' =>
    r = .returned (.tuple #[.pointer (some ⟨w.heap.size, 0, none⟩), .int .i64 0]) ∧ Wr u w' (s1 m) 16 ∧ Ch u w w' ∧ IsU u w' w.heap.size 1 (newF (z0 (m + 1)) 1) false := by
  have := runew_at h (by decide) (z0_len m) 1
  rw [z0_new, if_pos rfl] at this
  exact this
theorem bo1 (h : Wo u w (s1 m) 16) : Calls Tryz.prog 36 #[.pointer (some ⟨u.mp, 0, none⟩), .pointer (some ⟨u.pp, 0, none⟩), .int .i64 2] w fun r w' =>
    r = .returned (.tuple #[.pointer (if newE (s1 m) 2 = 0 then some ⟨w.heap.size, 0, none⟩ else none), .int .i64 (newE (s1 m) 2)]) ∧ Wo u w' (s2 m) 32 ∧ Ch u w w' ∧ (newE (s1 m) 2 = 0 → IsT u w' w.heap.size 1 2 (newF (s1 m) 2)) :=
  tnew_at h (by decide) (s1_len m) 2
theorem br1 (h : Wr u w (s1 m) 16) : Calls Tryz.prog 40 #[.pointer (some ⟨u.mp, 0, none⟩), .pointer (some ⟨u.pp, 0, none⟩), .int .i64 2] w fun r w' =>
    r = .returned (.tuple #[.pointer (some ⟨w.heap.size, 0, none⟩), .int .i64 (newE (s1 m) 2)]) ∧ Wr u w' (s2 m) 32 ∧ Ch u w w' ∧ IsU u w' w.heap.size 2 (if newE (s1 m) 2 = 0 then newF (s1 m) 2 else 0) false :=
  runew_at h (by decide) (s1_len m) 2
end
/-- The world that Begin leaves. -/
structure Bgn (w : World) (m : Nat) (w' : World) (u v : Si) (a0 b0 a1 b1 : Nat) (x1 : Option Addr) : Prop where
  g : Bg w.heap.size u v a0 b0 b1 x1 w'
  wo : Wo u w' (s2 m) 32
  wr : Wr v w' (s2 m) 32
  t0 : IsT u w' a0 1 1 (newF (z0 (m + 1)) 1)
  u0 : IsU v w' b0 1 (newF (z0 (m + 1)) 1) false
  u1 : IsU v w' b1 2 (if newE (s1 m) 2 = 0 then newF (s1 m) 2 else 0) false
  t1 : newE (s1 m) 2 = 0 → x1 = some ⟨a1, 0, none⟩ ∧ IsT u w' a1 1 2 (newF (s1 m) 2)
  tn : newE (s1 m) 2 ≠ 0 → x1 = none
  ord : (w.heap.size < a0 ∧ w.heap.size < b0) ∧ a0 < a1 ∧ b0 < b1
  lo : (w.heap.size < u.mp ∧ w.heap.size < u.wb ∧ w.heap.size < u.pp ∧ w.heap.size < u.pb) ∧ w.heap.size < v.mp ∧ w.heap.size < v.wb ∧ w.heap.size < v.pp ∧ w.heap.size < v.pb
  bel : Below w.heap.size w w'
set_option maxRecDepth 100000 in
set_option maxHeartbeats 4000000 in
theorem begin_at (w : World) (hT : O.Tab w) (m : Nat) (hm : m < 300) :
    Calls Tryz.prog 10 #[.int .i64 (m + 1 : Nat)] w fun r w' => r = .returned (.tuple #[.pointer (some ⟨w.heap.size, 0, none⟩), .bool true]) ∧ ∃ u v a0 b0 a1 b1 x1, Bgn w m w' u v a0 b0 a1 b1 x1 := by
  have HT := hid hT
  have HMM := hid hm
  have hb0 := below_alloc w (.cells #[.pointer none, .pointer none, .pointer none, .pointer none, .pointer none, .pointer none, .pointer none, .pointer none] 39)
  have HB0 := hid hb0
  have HG0 := hid (heap_alloc_new w (.cells #[.pointer none, .pointer none, .pointer none, .pointer none, .pointer none, .pointer none, .pointer none, .pointer none] 39))
  have HS0 : Hid ((w.alloc (.cells #[.pointer none, .pointer none, .pointer none, .pointer none, .pointer none, .pointer none, .pointer none, .pointer none] 39)).heap.size = w.heap.size + 1) := by simp [Hid]
  have HM := hid (fun W => new_yes (16 * (m + 1)) W (by omega) (by omega))
  have HP := hid (fun W => O.new_yes (m + 1) W (by omega) (by omega))
  have HMr := hid (fun W => rnew_yes (16 * (m + 1)) W (by omega) (by omega))
  have HPr := hid (fun W => O.rnew_yes (m + 1) W (by omega) (by omega))
  obtain ⟨n, hn⟩ : ∃ n : Int, ((m + 1 : Nat) : Int) = n := ⟨_, rfl⟩
  have en : ((16 * (m + 1) : Nat) : Int) = 16 * n := by omega
  rw [en] at HM HMr
  rw [hn] at HP HPr ⊢
  have e1 : wrap64 (16 * n) = 16 * n := by unfold wrap64; omega
  clear hT hm hb0 hn en
  go_enter Tryz.func10, Tryz.ntmps10
  go_wp2_with fail
  refine (HM.out _).mono ?_
  rintro e w1 ⟨rfl, hm1, hB1⟩
  have hs0 := HS0.out
  rw [hs0] at hm1 ⊢
  have HM1 := hid hm1
  have HB1 := hid (HB0.out.trans (hB1.mono HB0.out.size))
  have HG1 := hid (P.stay hB1 HG0.out)
  clear hm1 hB1 HG0 HB0 HS0 hs0 HM
  go_wp2_with fail
  refine (HP.out w1).mono ?_
  rintro e w2 ⟨rfl, hp1, hB1⟩
  have HP2 := hid hp1
  have HM2 := hid (HM1.out.below hB1)
  have HB2 := hid (HB1.out.trans (hB1.mono HB1.out.size))
  have HG2 := hid (P.stay hB1 HG1.out)
  have HL1 := hid (And.intro HM1.out.lt.1 hB1.size)
  clear hp1 hB1 HM1 HB1 HG1 HP
  go_wp2_with fail
  refine (HMr.out w2).mono ?_
  rintro e w3 ⟨rfl, hm1, hB1⟩
  have HR3 := hid hm1
  have HM3 := hid (HM2.out.below hB1)
  have HP3 := hid (HP2.out.below hB1)
  have HB3 := hid (HB2.out.trans (hB1.mono HB2.out.size))
  have HG3 := hid (P.stay hB1 HG2.out)
  have HL2 := hid (And.intro HP2.out.lt hB1.size)
  clear hm1 hB1 HM2 HP2 HB2 HG2 HMr
  go_wp2_with fail
  refine (HPr.out w3).mono ?_
  rintro e w4 ⟨rfl, hp1, hB1⟩
  have HQ4 := hid hp1
  have HR4 := hid (HR3.out.below hB1)
  have HM4 := hid (HM3.out.below hB1)
  have HP4 := hid (HP3.out.below hB1)
  have HB4 := hid (HB3.out.trans (hB1.mono HB3.out.size))
  have hg4 := P.stay hB1 HG3.out
  have HL3 := hid (And.intro HR3.out.lt.1 hB1.size)
  clear hp1 hB1 HR3 HM3 HP3 HB3 HG3 HPr
  have hl1 := HL1.out
  have hl2 := HL2.out
  have hl3 := HL3.out
  have hl4 := HQ4.out.lt
  obtain ⟨u, hu⟩ : ∃ u : Si, u = ⟨w.heap.size + 1 + 1, w.heap.size + 1, w1.heap.size + 1, w1.heap.size⟩ := ⟨_, rfl⟩
  obtain ⟨v, hv⟩ : ∃ v : Si, v = ⟨w2.heap.size + 1, w2.heap.size, w3.heap.size + 1, w3.heap.size⟩ := ⟨_, rfl⟩
  have HWo : Hid (Wo u w4 (z0 (m + 1)) 0) := by
    rw [hu]
    exact start_o HM4.out HP4.out (HT.out.go HB4.out) (U64_rep _) (by simp only; omega) (by simp only; omega)
  have HWr : Hid (Wr v w4 (z0 (m + 1)) 0) := by
    rw [hv]
    exact start_r HR4.out HQ4.out (HT.out.go HB4.out) (U64_rep _) (by simp only; omega) (by simp only; omega)
  have HUV : Hid (u.wb ≠ v.wb ∧ (w.heap.size < u.mp ∧ w.heap.size < u.wb ∧ w.heap.size < u.pp ∧ w.heap.size < u.pb) ∧ w.heap.size < v.mp ∧ w.heap.size < v.wb ∧ w.heap.size < v.pp ∧ w.heap.size < v.pb) := by
    show _ ∧ _
    rw [hu, hv]
    simp only
    omega
  have q1 : w.heap.size + 1 + 1 = u.mp := by rw [hu]
  have q2 : w1.heap.size + 1 = u.pp := by rw [hu]
  have q3 : w2.heap.size + 1 = v.mp := by rw [hv]
  have q4 : w3.heap.size + 1 = v.pp := by rw [hv]
  rw [q1, q2, q3, q4]
  have HG4 := hid hg4
  have c0 := P.cell_of (i := 0) hg4 rfl
  have c1 := P.cell_of (i := 1) hg4 rfl
  have c4 := P.cell_of (i := 4) hg4 rfl
  have c5 := P.cell_of (i := 5) hg4 rfl
  have f0 : w4.frozen? ⟨w.heap.size, 0, none⟩ = false := P.free_of hg4
  have f1 : w4.frozen? ⟨w.heap.size, 1, none⟩ = false := P.free_of hg4
  have f4 : w4.frozen? ⟨w.heap.size, 4, none⟩ = false := P.free_of hg4
  have f5 : w4.frozen? ⟨w.heap.size, 5, none⟩ = false := P.free_of hg4
  clear hu hv hl1 hl2 hl3 hl4 HL1 HL2 HL3 HM4 HP4 HR4 HQ4 q1 q2 q3 q4 hg4
  go_wp2
  have hg5 : ((((w4.setCell ⟨w.heap.size, 0, none⟩ (.pointer (some ⟨u.mp, 0, none⟩))).setCell ⟨w.heap.size, 1, none⟩ (.pointer (some ⟨u.pp, 0, none⟩))).setCell ⟨w.heap.size, 4, none⟩ (.pointer (some ⟨v.mp, 0, none⟩))).setCell ⟨w.heap.size, 5, none⟩ (.pointer (some ⟨v.pp, 0, none⟩))).heap[w.heap.size]? = some (.cells #[.pointer (some ⟨u.mp, 0, none⟩), .pointer (some ⟨u.pp, 0, none⟩), .pointer none, .pointer none, .pointer (some ⟨v.mp, 0, none⟩), .pointer (some ⟨v.pp, 0, none⟩), .pointer none, .pointer none] 39 (0, 0)) := by
    have a0 := P.heap_setCell_self (i := 0) HG4.out (.pointer (some ⟨u.mp, 0, none⟩))
    have a1 := P.heap_setCell_self (i := 1) a0 (.pointer (some ⟨u.pp, 0, none⟩))
    have a4 := P.heap_setCell_self (i := 4) a1 (.pointer (some ⟨v.mp, 0, none⟩))
    have a5 := P.heap_setCell_self (i := 5) a4 (.pointer (some ⟨v.pp, 0, none⟩))
    exact a5
  have hx : Px w.heap.size w4 ((((w4.setCell ⟨w.heap.size, 0, none⟩ (.pointer (some ⟨u.mp, 0, none⟩))).setCell ⟨w.heap.size, 1, none⟩ (.pointer (some ⟨u.pp, 0, none⟩))).setCell ⟨w.heap.size, 4, none⟩ (.pointer (some ⟨v.mp, 0, none⟩))).setCell ⟨w.heap.size, 5, none⟩ (.pointer (some ⟨v.pp, 0, none⟩))) := ((((Px.refl _ _).set _ _).set _ _).set _ _).set _ _
  generalize ((((w4.setCell ⟨w.heap.size, 0, none⟩ (.pointer (some ⟨u.mp, 0, none⟩))).setCell ⟨w.heap.size, 1, none⟩ (.pointer (some ⟨u.pp, 0, none⟩))).setCell ⟨w.heap.size, 4, none⟩ (.pointer (some ⟨v.mp, 0, none⟩))).setCell ⟨w.heap.size, 5, none⟩ (.pointer (some ⟨v.pp, 0, none⟩))) = w5 at *
  have hp0 : w.heap.size ≠ 0 := by have := HT.out.pos; omega
  have huv := HUV.out
  have HWo5 := hid (HWo.out.px hx hp0 (by omega) (by omega) (by omega) (by omega))
  have HWr5 := hid (HWr.out.px hx hp0 (by omega) (by omega) (by omega) (by omega))
  have HB5 := hid (HB4.out.trans (hx.below (Nat.le_refl _)))
  have HG5 := hid hg5
  clear hg5 hx huv c0 c1 c4 c5 f0 f1 f4 f5 HG4 HWo HWr HB4
  refine wp_loop_rounds 3 ?_
  rw [rounds_succ]
  go_wp2_with fail
  refine (bo0 HWo5.out).mono ?_
  rintro e w6 ⟨rfl, hW, hC, hTT⟩
  have HWr6 := hid (HWr5.out.chO HWo5.out HUV.out.1 hC)
  have HG6 := hid (hC.keepB HWo5.out HG5.out (by decide) (by decide) (by decide))
  have HB6 := hid (HB5.out.trans (hC.below (by have := HB5.out.size; omega) (by have := HUV.out; omega) (by have := HUV.out; omega) (by have := HUV.out; omega)))
  have HWo6 := hid hW
  have HA6 := hid hTT
  have HB5s := hid (And.intro (lt_of_block HG5.out) hC.size)
  clear hW hC hTT HWo5 HWr5 HG5 HB5
  go_wp2_with fail
  refine (br0 HWr6.out).mono ?_
  rintro e w7 ⟨rfl, hW, hC, hTT⟩
  have HWo7 := hid (HWo6.out.chR HWr6.out HUV.out.1 hC)
  have hg7 := HWr6.out.keepR hC HG6.out (by decide) (by decide) (by decide)
  have HA7 := hid (HWr6.out.keepR hC HA6.out (by decide) (by decide) (by decide))
  have HB7 := hid (HB6.out.trans (hC.below (by have := HB6.out.size; omega) (by have := HUV.out; omega) (by have := HUV.out; omega) (by have := HUV.out; omega)))
  have HWr7 := hid hW
  have HU7 := hid hTT
  have HSZ := hid (And.intro HB5s.out (And.intro HB6.out.size hC.size))
  have HG7 := hid hg7
  have c2 := P.cell_of (i := 2) hg7 rfl
  have c6 := P.cell_of (i := 6) hg7 rfl
  have f2 : w7.frozen? ⟨w.heap.size, 2, none⟩ = false := P.free_of hg7
  have f6 : w7.frozen? ⟨w.heap.size, 6, none⟩ = false := P.free_of hg7
  clear hW hC hTT hg7 HWo6 HWr6 HG6 HA6 HB6 HB5s
  go_wp2
  have hg8 : ((w7.setCell ⟨w.heap.size, 2, none⟩ (.pointer (some ⟨w5.heap.size, 0, none⟩))).setCell ⟨w.heap.size, 6, none⟩ (.pointer (some ⟨w6.heap.size, 0, none⟩))).heap[w.heap.size]? = some (.cells #[.pointer (some ⟨u.mp, 0, none⟩), .pointer (some ⟨u.pp, 0, none⟩), .pointer (some ⟨w5.heap.size, 0, none⟩), .pointer none, .pointer (some ⟨v.mp, 0, none⟩), .pointer (some ⟨v.pp, 0, none⟩), .pointer (some ⟨w6.heap.size, 0, none⟩), .pointer none] 39 (0, 0)) := by
    have a0 := P.heap_setCell_self (i := 2) HG7.out (.pointer (some ⟨w5.heap.size, 0, none⟩))
    have a1 := P.heap_setCell_self (i := 6) a0 (.pointer (some ⟨w6.heap.size, 0, none⟩))
    exact a1
  have hx : Px w.heap.size w7 ((w7.setCell ⟨w.heap.size, 2, none⟩ (.pointer (some ⟨w5.heap.size, 0, none⟩))).setCell ⟨w.heap.size, 6, none⟩ (.pointer (some ⟨w6.heap.size, 0, none⟩))) := ((Px.refl _ _).set _ _).set _ _
  generalize ((w7.setCell ⟨w.heap.size, 2, none⟩ (.pointer (some ⟨w5.heap.size, 0, none⟩))).setCell ⟨w.heap.size, 6, none⟩ (.pointer (some ⟨w6.heap.size, 0, none⟩))) = w8 at *
  have hp0 : w.heap.size ≠ 0 := by have := HT.out.pos; omega
  have huv := HUV.out
  obtain ⟨⟨z1, z2⟩, z3, z4⟩ := HSZ.out
  have hax := lt_of_block HA7.out
  have hux := lt_of_block HU7.out
  have HORD := hid (show (w.heap.size < w5.heap.size ∧ w.heap.size < w6.heap.size) ∧ w5.heap.size < w8.heap.size ∧ w6.heap.size < w8.heap.size by have := hx.size; omega)
  have HWo8 := hid (HWo7.out.px hx hp0 (by omega) (by omega) (by omega) (by omega))
  have HWr8 := hid (HWr7.out.px hx hp0 (by omega) (by omega) (by omega) (by omega))
  have HA8 := hid (show IsT u w8 w5.heap.size 1 1 _ from (hx.block _ (by omega)).trans HA7.out)
  have HU8 := hid (show IsU v w8 w6.heap.size 1 _ false from (hx.block _ (by omega)).trans HU7.out)
  have HB8 := hid (HB7.out.trans (hx.below (Nat.le_refl _)))
  have HG8 := hid hg8
  clear hg8 hx huv c2 c6 f2 f6 z1 z2 z3 z4 hax hux HG7 HWo7 HWr7 HA7 HU7 HB7 HSZ hp0
  rw [rounds_succ]
  have HO := hid (bo1 HWo8.out)
  have HR := hid (fun W (h : Wr v W (s1 m) 16) => br1 h)
  by_cases hee : newE (s1 m) 2 = 0
  · rw [hee, if_pos rfl] at HO
    rw [hee] at HR
    go_wp2_with fail
    refine HO.out.mono ?_
    rintro e w9 ⟨rfl, hW, hC, hTT⟩
    have HWr9 := hid (HWr8.out.chO HWo8.out HUV.out.1 hC)
    have HG9 := hid (hC.keepB HWo8.out HG8.out (by decide) (by decide) (by decide))
    have HA9 := hid (HA8.out.ch HWo8.out hC)
    have HU9 := hid (hC.keepB HWo8.out HU8.out (by decide) (by decide) (by decide))
    have HB9 := hid (HB8.out.trans (hC.below (by have := HB8.out.size; omega) (by have := HUV.out; omega) (by have := HUV.out; omega) (by have := HUV.out; omega)))
    have HWo9 := hid hW
    have HX9 := hid hTT
    have HS9 := hid hC.size
    have HR9 := hid (HR.out w9 HWr9.out)
    clear hW hC hTT HWo8 HWr8 HG8 HA8 HU8 HB8 HO HR
    go_wp2_with fail
    refine HR9.out.mono ?_
    rintro e w10 ⟨rfl, hW, hC, hTT⟩
    have HWo10 := hid (HWo9.out.chR HWr9.out HUV.out.1 hC)
    have hg10 := HWr9.out.keepR hC HG9.out (by decide) (by decide) (by decide)
    have HA10 := hid (HWr9.out.keepR hC HA9.out (by decide) (by decide) (by decide))
    have HU10 := hid (HWr9.out.keepR hC HU9.out (by decide) (by decide) (by decide))
    have HY10 := hid (HWr9.out.keepR hC (HX9.out (by trivial)) (by decide) (by decide) (by decide))
    have HB10 := hid (HB9.out.trans (hC.below (by have := HB9.out.size; omega) (by have := HUV.out; omega) (by have := HUV.out; omega) (by have := HUV.out; omega)))
    have HWr10 := hid hW
    have HV10 := hid hTT
    have HS10 := hid hC.size
    have HG10 := hid hg10
    have c3 := P.cell_of (i := 3) hg10 rfl
    have c7 := P.cell_of (i := 7) hg10 rfl
    have f3 : w10.frozen? ⟨w.heap.size, 3, none⟩ = false := P.free_of hg10
    have f7 : w10.frozen? ⟨w.heap.size, 7, none⟩ = false := P.free_of hg10
    clear hW hC hTT hg10 HWo9 HWr9 HG9 HA9 HU9 HB9 HR9 HX9
    go_wp2
    have hg11 : ((w10.setCell ⟨w.heap.size, 3, none⟩ (.pointer (some ⟨w8.heap.size, 0, none⟩))).setCell ⟨w.heap.size, 7, none⟩ (.pointer (some ⟨w9.heap.size, 0, none⟩))).heap[w.heap.size]? = some (.cells #[.pointer (some ⟨u.mp, 0, none⟩), .pointer (some ⟨u.pp, 0, none⟩), .pointer (some ⟨w5.heap.size, 0, none⟩), (.pointer (some ⟨w8.heap.size, 0, none⟩)), .pointer (some ⟨v.mp, 0, none⟩), .pointer (some ⟨v.pp, 0, none⟩), .pointer (some ⟨w6.heap.size, 0, none⟩), .pointer (some ⟨w9.heap.size, 0, none⟩)] 39 (0, 0)) := by
      have a0 := P.heap_setCell_self (i := 3) HG10.out (.pointer (some ⟨w8.heap.size, 0, none⟩))
      have a1 := P.heap_setCell_self (i := 7) a0 (.pointer (some ⟨w9.heap.size, 0, none⟩))
      exact a1
    have hx : Px w.heap.size w10 ((w10.setCell ⟨w.heap.size, 3, none⟩ (.pointer (some ⟨w8.heap.size, 0, none⟩))).setCell ⟨w.heap.size, 7, none⟩ (.pointer (some ⟨w9.heap.size, 0, none⟩))) := ((Px.refl _ _).set _ _).set _ _
    generalize ((w10.setCell ⟨w.heap.size, 3, none⟩ (.pointer (some ⟨w8.heap.size, 0, none⟩))).setCell ⟨w.heap.size, 7, none⟩ (.pointer (some ⟨w9.heap.size, 0, none⟩))) = w11 at *
    have HX := hid hx
    have HG11 := hid hg11
    clear hx hg11 c3 c7 f3 f7 HG10
    rw [rounds_succ]
    go_wp2
    go_ret2
    have hx := HX.out
    have huv := HUV.out
    have hor := HORD.out
    have hs9 := HS9.out
    have hs10 := HS10.out
    have hp0 : w.heap.size ≠ 0 := by have := HT.out.pos; omega
    refine ⟨rfl, u, v, w5.heap.size, w6.heap.size, w8.heap.size, w9.heap.size, some ⟨w8.heap.size, 0, none⟩, ⟨HG11.out, HUV.out.1⟩, HWo10.out.px hx hp0 (by omega) (by omega) (by omega) (by omega), HWr10.out.px hx hp0 (by omega) (by omega) (by omega) (by omega), (hx.block _ (by omega)).trans HA10.out, (hx.block _ (by omega)).trans HU10.out, by rw [hee]; exact (hx.block _ (by omega)).trans HV10.out, ?_, ?_, by omega, HUV.out.2, HB10.out.trans (hx.below (Nat.le_refl _))⟩
    · intro _
      exact ⟨rfl, (hx.block _ (by omega)).trans HY10.out⟩
    · intro h
      exact absurd hee h
  · have hb : (newE (s1 m) 2 != 0) = true := by simpa using hee
    have hb2 : (newE (s1 m) 2 == 0) = false := by simpa using hee
    rw [if_neg hee] at HO
    have HEE := hid hee
    clear hee
    have HSM := hid (fun (e : Int) (h : newE (s1 m) 2 = e) => h)
    go_wp2_with fail
    refine HO.out.mono ?_
    rintro e w9 ⟨rfl, hW, hC, hTT⟩
    have HWr9 := hid (HWr8.out.chO HWo8.out HUV.out.1 hC)
    have HG9 := hid (hC.keepB HWo8.out HG8.out (by decide) (by decide) (by decide))
    have HA9 := hid (HA8.out.ch HWo8.out hC)
    have HU9 := hid (hC.keepB HWo8.out HU8.out (by decide) (by decide) (by decide))
    have HB9 := hid (HB8.out.trans (hC.below (by have := HB8.out.size; omega) (by have := HUV.out; omega) (by have := HUV.out; omega) (by have := HUV.out; omega)))
    have HWo9 := hid hW
    have HX9 := hid hTT
    have HS9 := hid hC.size
    have HR9 := hid (HR.out w9 HWr9.out)
    clear hW hC hTT HWo8 HWr8 HG8 HA8 HU8 HB8 HO HR
    go_wp2_with fail
    refine HR9.out.mono ?_
    rintro e w10 ⟨rfl, hW, hC, hTT⟩
    have HWo10 := hid (HWo9.out.chR HWr9.out HUV.out.1 hC)
    have hg10 := HWr9.out.keepR hC HG9.out (by decide) (by decide) (by decide)
    have HA10 := hid (HWr9.out.keepR hC HA9.out (by decide) (by decide) (by decide))
    have HU10 := hid (HWr9.out.keepR hC HU9.out (by decide) (by decide) (by decide))
    have HB10 := hid (HB9.out.trans (hC.below (by have := HB9.out.size; omega) (by have := HUV.out; omega) (by have := HUV.out; omega) (by have := HUV.out; omega)))
    have HWr10 := hid hW
    have HV10 := hid hTT
    have HS10 := hid hC.size
    have HG10 := hid hg10
    have c3 := P.cell_of (i := 3) hg10 rfl
    have c7 := P.cell_of (i := 7) hg10 rfl
    have f3 : w10.frozen? ⟨w.heap.size, 3, none⟩ = false := P.free_of hg10
    have f7 : w10.frozen? ⟨w.heap.size, 7, none⟩ = false := P.free_of hg10
    clear hW hC hTT hg10 HWo9 HWr9 HG9 HA9 HU9 HB9 HR9 HX9
    go_wp2
    have hg11 : ((w10.setCell ⟨w.heap.size, 3, none⟩ (.pointer none)).setCell ⟨w.heap.size, 7, none⟩ (.pointer (some ⟨w9.heap.size, 0, none⟩))).heap[w.heap.size]? = some (.cells #[.pointer (some ⟨u.mp, 0, none⟩), .pointer (some ⟨u.pp, 0, none⟩), .pointer (some ⟨w5.heap.size, 0, none⟩), (.pointer none), .pointer (some ⟨v.mp, 0, none⟩), .pointer (some ⟨v.pp, 0, none⟩), .pointer (some ⟨w6.heap.size, 0, none⟩), .pointer (some ⟨w9.heap.size, 0, none⟩)] 39 (0, 0)) := by
      have a0 := P.heap_setCell_self (i := 3) HG10.out (.pointer none)
      have a1 := P.heap_setCell_self (i := 7) a0 (.pointer (some ⟨w9.heap.size, 0, none⟩))
      exact a1
    have hx : Px w.heap.size w10 ((w10.setCell ⟨w.heap.size, 3, none⟩ (.pointer none)).setCell ⟨w.heap.size, 7, none⟩ (.pointer (some ⟨w9.heap.size, 0, none⟩))) := ((Px.refl _ _).set _ _).set _ _
    generalize ((w10.setCell ⟨w.heap.size, 3, none⟩ (.pointer none)).setCell ⟨w.heap.size, 7, none⟩ (.pointer (some ⟨w9.heap.size, 0, none⟩))) = w11 at *
    have HX := hid hx
    have HG11 := hid hg11
    clear hx hg11 c3 c7 f3 f7 HG10
    rw [rounds_succ]
    go_wp2
    go_ret2
    have hx := HX.out
    have huv := HUV.out
    have hor := HORD.out
    have hs9 := HS9.out
    have hs10 := HS10.out
    have hp0 : w.heap.size ≠ 0 := by have := HT.out.pos; omega
    refine ⟨rfl, u, v, w5.heap.size, w6.heap.size, w8.heap.size, w9.heap.size, none, ⟨HG11.out, HUV.out.1⟩, HWo10.out.px hx hp0 (by omega) (by omega) (by omega) (by omega), HWr10.out.px hx hp0 (by omega) (by omega) (by omega) (by omega), (hx.block _ (by omega)).trans HA10.out, (hx.block _ (by omega)).trans HU10.out, (hx.block _ (by omega)).trans HV10.out, ?_, ?_, by omega, HUV.out.2, HB10.out.trans (hx.below (Nat.le_refl _))⟩
    · intro h
      exact absurd h HEE.out
    · intro _
      rfl
end Go.Proofs.YtpfmmlbakbhklaaGreatDoor
