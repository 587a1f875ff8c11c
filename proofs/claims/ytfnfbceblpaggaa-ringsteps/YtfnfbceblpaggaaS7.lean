/- What the words of an empty ring are, and what Init returns and leaves. Conditions: the counts are below 2^62. -/
import Derived.Test.YtfnfbceblpaggaaS6
namespace Go.Proofs.Ytfnfbceblpaggaa
open Go.RowKit

/-- The words of an empty ring of n slots, the first k of which are laid. -/
def empK (n k : Nat) : List Int := (List.range (2 + 2 * n)).map fun i => if 2 ≤ i ∧ i % 2 = 0 ∧ (i - 2) / 2 < k then (((i - 2) / 2 : Nat) : Int) else 0
abbrev emp (n : Nat) : List Int := empK n n
theorem empK_length (n k : Nat) : (empK n k).length = 2 + 2 * n := by simp [empK]
theorem empK_zero (n : Nat) : empK n 0 = List.replicate (2 + 2 * n) 0 := by
  apply List.ext_getElem
  · simp [empK]
  · intro i h1 h2
    simp [empK]
theorem empK_get (n k i : Nat) (h : i < 2 + 2 * n) : (empK n k).getD i 0 = if 2 ≤ i ∧ i % 2 = 0 ∧ (i - 2) / 2 < k then (((i - 2) / 2 : Nat) : Int) else 0 := by
  simp [empK, List.getD, h]
theorem empK_succ (n k : Nat) : (empK n k).set (2 + 2 * k) (k : Int) = empK n (k + 1) := by
  apply List.ext_getElem
  · simp [empK]
  · intro i h1 h2
    rw [List.getElem_set]
    simp only [empK, List.getElem_map, List.getElem_range]
    by_cases h : 2 + 2 * k = i
    · subst h
      simp
    · rw [if_neg h]
      by_cases c : 2 ≤ i ∧ i % 2 = 0
      · have e : (i - 2) / 2 ≠ k := by omega
        by_cases d : (i - 2) / 2 < k
        · rw [if_pos ⟨c.1, c.2, d⟩, if_pos ⟨c.1, c.2, by omega⟩]
        · rw [if_neg (fun x => d x.2.2), if_neg (fun x => d (by have := x.2.2; omega))]
      · rw [if_neg (fun x => c ⟨x.1, x.2.1⟩), if_neg (fun x => c ⟨x.1, x.2.1⟩)]
theorem emp_bounds (n i : Nat) : 0 ≤ (emp n).getD i 0 ∧ (emp n).getD i 0 ≤ n := by
  by_cases h : i < 2 + 2 * n
  · rw [empK_get n n i h]
    split <;> omega
  · have : (emp n).getD i 0 = 0 := by
      rw [List.getD, List.getElem?_eq_none (by rw [empK_length]; omega)]; rfl
    omega

set_option maxRecDepth 100000 in
set_option maxHeartbeats 600000 in
theorem empty_at (w : World) (n : Nat) (ad : Int) (h0 : 2 ≤ n) (h1 : n ≤ 64) :
    Calls Try.prog 31 #[.agg #[.int .i64 ad, .int .i64 n]] w fun e w' => ∃ b, e = .returned (.slice (some ⟨b, 0, none⟩) (2 + 2 * n) (2 + 2 * n)) ∧ IsRow w' b (emp n) ∧ w.heap.size ≤ b ∧ Below w.heap.size w w' := by
  have hmk := run_make_row' (P := Try.prog) 22 41 (.int .u64 0) 8 Try.underlying22 info41 rfl .i64 .i64 (2 + 2 * n) (by omega) (by omega)
  simp only [show (((2 + 2 * n : Nat)) : Int) = 2 + 2 * (n : Int) by omega] at hmk
  go_enter Try.func31, Try.ntmps31
  go_wp2
  have g0 : IsRow ((w.alloc (.cells #[.int .i64 ad, .int .i64 n] 35)).alloc (.cells (madeCells #[(.int .u64 0 : Value)] (2 + 2 * n)) 41)) (w.heap.size + 1) (empK n 0) := by
    have := heap_alloc_new (w.alloc (.cells #[.int .i64 ad, .int .i64 n] 35)) (.cells (madeCells #[(.int .u64 0 : Value)] (2 + 2 * n)) 41 (0, 0))
    rw [made_eq] at this ⊢
    unfold IsRow
    rw [empK_zero]
    simpa using this
  have B0 := bel_trans (below_alloc w (.cells #[.int .i64 ad, .int .i64 n] 35)) (below_alloc (w.alloc (.cells #[.int .i64 ad, .int .i64 n] 35)) (.cells (madeCells #[(.int .u64 0 : Value)] (2 + 2 * n)) 41))
  generalize ((w.alloc (.cells #[.int .i64 ad, .int .i64 n] 35)).alloc (.cells (madeCells #[(.int .u64 0 : Value)] (2 + 2 * n)) 41)) = W at *
  generalize hb : w.heap.size + 1 = b at *
  have hb' : w.heap.size ≤ b := by omega
  clear hb hmk
  go_loopw [12] (fun i wr => ∃ k : Nat, k ≤ n ∧ i = .int .i64 k ∧ IsRow wr b (empK n k) ∧ Below w.heap.size w wr) (fun i _ => n - (intOf i).toNat)
  case atStart => exact ⟨0, Nat.zero_le _, rfl, g0, B0⟩
  case round =>
    obtain ⟨k, hk, rfl, hR, hB⟩ := hrel
    by_cases hlt : k < n
    · have c0 := hR.cell (2 + 2 * k) (by rw [empK_length]; omega)
      have f0 := hR.free (2 + 2 * k)
      have HR := hid hR
      have HB := hid hB
      generalize (empK n k).getD (2 + 2 * k) 0 = v0 at c0
      have hix : (0 : Int) ≤ 2 + 2 * (k : Int) := by omega
      have hix2 : (2 + 2 * (k : Int)) < ((2 + 2 * n : Nat) : Int) := by omega
      clear hR hB g0 B0
      go_wp2
      refine ⟨⟨k + 1, by omega, by go_num, ?_, below_set HB.out b _ _ hb'⟩, by simp [intOf]; omega⟩
      rw [← empK_succ]
      exact HR.out.set _ _
    · clear g0 B0
      obtain rfl : k = n := by omega
      have HR := hid hR
      have HB := hid hB
      clear hR hB
      go_wp2
      go_ret
      exact ⟨b, rfl, HR.out, hb', HB.out⟩

/-- What comes of stores one behind the other, the first error of which ends them. -/
def initR : St → Int → List Int → St × Int
  | s, _, [] => (s, 0)
  | s, a, v :: l => if errV s a = 0 then initR (storeT s a v) (a + 1) l else (storeT s a v, errV s a)
theorem initR_at {s : St} {a : Int} {l : List Int} {k : Nat} (hk : k < l.length) :
    initR s a (l.drop k) = if errV s a = 0 then initR (storeT s a (l.getD k 0)) (a + 1) (l.drop (k + 1)) else (storeT s a (l.getD k 0), errV s a) := by
  rw [List.drop_eq_getElem_cons hk, initR]
  simp [List.getD, hk]

structure InI (w : World) (p b e n k c : Nat) (ad : Int) (s s' : St) (wr : World) : Prop where
  mem : Mem 77 wr p b s'
  cnt : Cnt s' (c + k)
  but : But p b w wr
  row : IsRow wr e (emp n)
  ring : wr.heap[w.heap.size]? = some (.cells #[.int .i64 ad, .int .i64 n] 35 (0, 0))
  le : w.heap.size ≤ e
  eq : initR s ad (emp n) = initR s' (ad + k) ((emp n).drop k)
theorem InI.next {w wr w2 : World} {p b e n k c : Nat} {ad v : Int} {s s' : St} (h0 : Mem 77 w p b s) (h : InI w p b e n k c ad s s' wr) (hk : k < 2 + 2 * n) (hv : (emp n).getD k 0 = v) (he : errV s' (ad + k) = 0) (T : Turns 77 p b wr w2 (storeT s' (ad + k) v)) : InI w p b e n (k + 1) c ad s (storeT s' (ad + k) v) w2 := by
  have l1 := h0.lt
  have l2 := h.le
  refine ⟨T.1, h.cnt.store _ _, h.but.trans T.2, h.row.keep (T.2.block _ h.row.lt (by omega) (by omega)), (T.2.block _ (lt_of_block h.ring) (by omega) (by omega)).trans h.ring, l2, ?_⟩
  rw [h.eq, initR_at (by rw [empK_length]; exact hk), if_pos he, hv]
  congr 1
  omega
theorem InI.stop {w wr w2 : World} {p b e n k c : Nat} {ad v : Int} {s s' : St} (h : InI w p b e n k c ad s s' wr) (hk : k < 2 + 2 * n) (hv : (emp n).getD k 0 = v) (he : errV s' (ad + k) ≠ 0) (T : Turns 77 p b wr w2 (storeT s' (ad + k) v)) :
    errV s' (ad + k) = (initR s ad (emp n)).2 ∧ Turns 77 p b w w2 (initR s ad (emp n)).1 := by
  rw [h.eq, initR_at (by rw [empK_length]; exact hk), if_neg he, hv]
  exact ⟨rfl, T.1, h.but.trans T.2⟩
theorem InI.stands {w wr : World} {p b e n k c : Nat} {ad : Int} {s s' : St} (h : InI w p b e n k c ad s s' wr) (hk : ¬ k < 2 + 2 * n) :
    (0 : Int) = (initR s ad (emp n)).2 ∧ Turns 77 p b w wr (initR s ad (emp n)).1 := by
  rw [h.eq, List.drop_eq_nil_of_le (by rw [empK_length]; omega), initR]
  exact ⟨rfl, h.mem, h.but⟩

set_option maxRecDepth 100000 in
set_option maxHeartbeats 600000 in
theorem init_at {w : World} {p b c : Nat} {s : St} (h : Mem 77 w p b s) (hc : Cnt s c) (hk : c + 200 ≤ bnd) (n : Nat) (ad : Int) (q : QOk ad n) :
    Calls Try.prog 12 #[.agg #[.int .i64 ad, .int .i64 n], .pointer (some ⟨p, 0, none⟩)] w fun e w' => e = .returned (.int .i64 (initR s ad (emp n)).2) ∧ Turns 77 p b w w' (initR s ad (emp n)).1 := by
  have HM := hid h
  have HC := hid hc
  have HK := hid hk
  have hn0 : 2 ≤ n := by have := q.s0; omega
  have hn1 : n ≤ 64 := by have := q.s1; omega
  have HCB := hid (canBe_any (w.alloc (.cells #[.int .i64 ad, .int .i64 n] 35)) ad n)
  rw [q.can] at HCB
  have ha0 := q.a0
  have ha1 := q.a1
  have hg := heap_alloc_new w (.cells #[.int .i64 ad, .int .i64 n] 35 (0, 0))
  have HG := hid hg
  clear hg h hc hk q
  generalize hst : initR s ad (emp n) = st
  have HS := hid hst
  clear hst
  obtain ⟨sT, sE⟩ := st
  go_enter Try.func12, Try.ntmps12
  go_wp2_with fail
  refine HCB.out.mono ?_
  rintro e w1 ⟨rfl, K⟩
  have hg1 := (K.block _ (lt_of_block HG.out)).trans HG.out
  have c0 : w1.cell? ⟨w.heap.size, 0, none⟩ = some (.int .i64 ad) := cell_of hg1 rfl
  have c1 : w1.cell? ⟨w.heap.size, 1, none⟩ = some (.int .i64 n) := cell_of hg1 rfl
  have HG1 := hid hg1
  have HB := hid (bel_trans (below_alloc w (.cells #[.int .i64 ad, .int .i64 n] 35)) K)
  clear K hg1 HG HCB
  go_wp2_with fail
  refine (empty_at w1 n ad hn0 hn1).mono ?_
  rintro e2 w2 ⟨r, rfl, hR, hr, K⟩
  have I0 : InI w p b r n 0 c ad s s w2 := ⟨(HM.out.below HB.out).below K, HC.out, But.of_below (bel_trans HB.out K), hR, (K.block _ (lt_of_block HG1.out)).trans HG1.out, Nat.le_trans HB.out.size hr, by simp⟩
  have HI := hid I0
  clear I0 hR hr K HG1 HB c0 c1
  go_wp2
  go_loopw [14] (fun i wr => ∃ (k : Nat) (s' : St), k ≤ 2 + 2 * n ∧ i = .int .i64 k ∧ InI w p b r n k c ad s s' wr) (fun i _ => 2 + 2 * n - (intOf i).toNat)
  case atStart => exact ⟨0, s, Nat.zero_le _, rfl, HI.out⟩
  case round =>
    obtain ⟨k, s', hk, rfl, hI⟩ := hrel
    clear HI
    by_cases hlt : k < 2 + 2 * n
    · have c0 := hI.row.cell k (by rw [empK_length]; omega)
      have q0 : wr.cell? ⟨w.heap.size, 0, none⟩ = some (.int .i64 ad) := cell_of hI.ring rfl
      have q1 : wr.cell? ⟨w.heap.size, 1, none⟩ = some (.int .i64 n) := cell_of hI.ring rfl
      generalize hv : (emp n).getD k 0 = v0 at c0
      have HV := hid hv
      have HI := hid hI
      have hix2 : (k : Int) < ((2 + 2 * n : Nat) : Int) := by omega
      clear hI hv
      go_wp2_with fail
      refine (store_any HI.out.mem HI.out.cnt (by have := HK.out; omega) (ad + k) v0).mono ?_
      rintro e3 w3 ⟨rfl, T⟩
      have HT := hid T
      clear T
      by_cases he : errV s' (ad + k) = 0
      · rw [he]
        go_wp2
        refine ⟨⟨k + 1, _, by omega, by go_num, HI.out.next HM.out hlt HV.out he HT.out⟩, by simp [intOf]; omega⟩
      · have hb : (errV s' (ad + k) != 0) = true := by simpa using he
        obtain ⟨e1, T⟩ := HI.out.stop hlt HV.out he HT.out
        rw [HS.out] at e1 T
        have HT2 := hid T
        have HE := hid e1
        clear T e1
        generalize errV s' (ad + k) = ev at *
        go_wp2
        go_ret
        exact ⟨by rw [← HE.out]; rfl, HT2.out⟩
    · obtain ⟨e1, T⟩ := hI.stands hlt
      rw [HS.out] at e1 T
      have HT2 := hid T
      have HE := hid e1
      clear T e1 hI
      have hix2 : ((2 + 2 * n : Nat) : Int) ≤ (k : Int) := by omega
      go_wp2
      go_ret
      exact ⟨by rw [← HE.out]; rfl, HT2.out⟩
set_option maxHeartbeats 400000 in
theorem init_no (w : World) (q : Value) {ad sz : Int} (h : canB ad sz = false) :
    Calls Try.prog 12 #[.agg #[.int .i64 ad, .int .i64 sz], q] w fun e w' => e = .returned (.int .i64 1) ∧ Below w.heap.size w w' := by
  have HC := hid (canBe_any (w.alloc (.cells #[.int .i64 ad, .int .i64 sz] 35)) ad sz)
  rw [h] at HC
  clear h
  go_enter Try.func12, Try.ntmps12
  go_wp2_with fail
  refine HC.out.mono ?_
  rintro e w1 ⟨rfl, K⟩
  have HB := hid (bel_trans (below_alloc w (.cells #[.int .i64 ad, .int .i64 sz] 35)) K)
  clear K HC
  go_wp2
  go_ret
  exact ⟨rfl, HB.out⟩
end Go.Proofs.Ytfnfbceblpaggaa
