/- What the document's answer for layer 3 tells of an act, and leaves: the same functions as package act's. Conditions: the counts are below 2^62. -/
import Derived.Test.YtmglacaikpcjhaaD2
import Derived.Test.YtmglacaikpcjhaaR1
namespace Go.Proofs.Ytmglacaikpcjhaa
open Go.RowKit

theorem rturns_new {w w2 : World} {p b : Nat} {s s' : St} {c1 c2 : Array Value} {t1 t2 : TypeId} (h : Mem 58 w p b s) (T : Turns 58 p b ((w.alloc (.cells c1 t1)).alloc (.cells c2 t2)) w2 s') :
    w2.heap[w.heap.size + 1]? = some (.cells c2 t2 (0, 0)) ∧ Turns 58 p b w w2 s' := by
  have hl := h.lt
  have e : ((w.alloc (.cells c1 t1)).alloc (.cells c2 t2)).heap[w.heap.size + 1]? = some (.cells c2 t2 (0, 0)) := by
    have := heap_alloc_new (w.alloc (.cells c1 t1)) (.cells c2 t2 (0, 0))
    simpa using this
  refine ⟨(T.2.block _ (by simp) (by omega) (by omega)).trans e, T.1, ?_⟩
  exact (But.of_below (bel_trans (below_alloc w (.cells c1 t1)) (below_alloc _ (.cells c2 t2)))).trans T.2
theorem size97 : (Try.prog.info? 97).map (·.size) = some 3 := by kernel_rfl

set_option maxHeartbeats 1000000 in
theorem rdo_load {w : World} {p b : Nat} {s : St} {k : Nat} (h : Mem 58 w p b s) (c : Cnt s k) (hk : k ≤ bnd) (ad a b' : Int) :
    Calls Try.prog 39 #[.pointer (some ⟨p, 0, none⟩), acV ⟨1, ad, a, b'⟩] w fun e w' => e = .returned (reV ⟨loadV s ad, false, errV s ad⟩) ∧ Turns 58 p b w w' (loadT s ad) := by
  have HM := hid h
  have HC := hid c
  have HK := hid hk
  clear h c hk
  go_enter Try.func39, Try.ntmps39
  go_wp2_with fail
  have hM := (HM.out.below (below_alloc w (.cells (acC ⟨1, ad, a, b'⟩) 48))).below (below_alloc _ (.cells #[.int .u64 0, .bool false, .int .i64 0] 97))
  refine (rload_any hM HC.out HK.out ad).mono ?_
  rintro e w2 ⟨rfl, hT⟩
  obtain ⟨hg, T⟩ := rturns_new HM.out hT
  have HT := hid T
  clear T hT hM
  have d0 : w2.cell? ⟨w.heap.size + 1, 0, none⟩ = some (.int .u64 0) := cell_of hg rfl
  have d1 : w2.cell? ⟨w.heap.size + 1, 1, none⟩ = some (.bool false) := cell_of hg rfl
  have d2 : w2.cell? ⟨w.heap.size + 1, 2, none⟩ = some (.int .i64 0) := cell_of hg rfl
  have f0 := free_of (i := 0) hg
  have f1 := free_of (i := 1) hg
  have f2 := free_of (i := 2) hg
  have HG := hid hg
  clear hg
  simp only []
  go_wp2
  (try simp only [Exit.inBlock, Exit.then])
  refine bodyPost_ret (results_cell_row rfl _ _ (w.heap.size + 1) 97 _ (0, 0) _ rfl (put3 HG.out _ _ _) Try.underlying97 rfl size97) rfl ?_
  exact ⟨rfl, turns_set HM.out (turns_set HM.out (turns_set HM.out HT.out _ _ _ (by omega)) _ _ _ (by omega)) _ _ _ (by omega)⟩

set_option maxHeartbeats 1000000 in
theorem rdo_store {w : World} {p b : Nat} {s : St} {k : Nat} (h : Mem 58 w p b s) (c : Cnt s k) (hk : k ≤ bnd) (ad a b' : Int) :
    Calls Try.prog 39 #[.pointer (some ⟨p, 0, none⟩), acV ⟨2, ad, a, b'⟩] w fun e w' => e = .returned (reV ⟨0, false, errV s ad⟩) ∧ Turns 58 p b w w' (storeT s ad a) := by
  have HM := hid h
  have HC := hid c
  have HK := hid hk
  clear h c hk
  go_enter Try.func39, Try.ntmps39
  go_wp2_with fail
  have hM := (HM.out.below (below_alloc w (.cells (acC ⟨2, ad, a, b'⟩) 48))).below (below_alloc _ (.cells #[.int .u64 0, .bool false, .int .i64 0] 97))
  refine (rstore_any hM HC.out HK.out ad a).mono ?_
  rintro e w2 ⟨rfl, hT⟩
  obtain ⟨hg, T⟩ := rturns_new HM.out hT
  have HT := hid T
  clear T hT hM
  have d0 : w2.cell? ⟨w.heap.size + 1, 0, none⟩ = some (.int .u64 0) := cell_of hg rfl
  have d1 : w2.cell? ⟨w.heap.size + 1, 1, none⟩ = some (.bool false) := cell_of hg rfl
  have d2 : w2.cell? ⟨w.heap.size + 1, 2, none⟩ = some (.int .i64 0) := cell_of hg rfl
  have f0 := free_of (i := 0) hg
  have f1 := free_of (i := 1) hg
  have f2 := free_of (i := 2) hg
  have HG := hid hg
  clear hg
  simp only []
  go_wp2
  (try simp only [Exit.inBlock, Exit.then])
  refine bodyPost_ret (results_cell_row rfl _ _ (w.heap.size + 1) 97 _ (0, 0) _ rfl (put3 HG.out _ _ _) Try.underlying97 rfl size97) rfl ?_
  exact ⟨rfl, turns_set HM.out (turns_set HM.out (turns_set HM.out HT.out _ _ _ (by omega)) _ _ _ (by omega)) _ _ _ (by omega)⟩

set_option maxHeartbeats 1000000 in
theorem rdo_cas {w : World} {p b : Nat} {s : St} {k : Nat} (h : Mem 58 w p b s) (c : Cnt s k) (hk : k ≤ bnd) (ad a b' : Int) :
    Calls Try.prog 39 #[.pointer (some ⟨p, 0, none⟩), acV ⟨3, ad, a, b'⟩] w fun e w' => e = .returned (reV ⟨0, casV s ad a, errV s ad⟩) ∧ Turns 58 p b w w' (casT s ad a b') := by
  have HM := hid h
  have HC := hid c
  have HK := hid hk
  clear h c hk
  go_enter Try.func39, Try.ntmps39
  go_wp2_with fail
  have hM := (HM.out.below (below_alloc w (.cells (acC ⟨3, ad, a, b'⟩) 48))).below (below_alloc _ (.cells #[.int .u64 0, .bool false, .int .i64 0] 97))
  refine (rcas_any hM HC.out HK.out ad a b').mono ?_
  rintro e w2 ⟨rfl, hT⟩
  obtain ⟨hg, T⟩ := rturns_new HM.out hT
  have HT := hid T
  clear T hT hM
  have d0 : w2.cell? ⟨w.heap.size + 1, 0, none⟩ = some (.int .u64 0) := cell_of hg rfl
  have d1 : w2.cell? ⟨w.heap.size + 1, 1, none⟩ = some (.bool false) := cell_of hg rfl
  have d2 : w2.cell? ⟨w.heap.size + 1, 2, none⟩ = some (.int .i64 0) := cell_of hg rfl
  have f0 := free_of (i := 0) hg
  have f1 := free_of (i := 1) hg
  have f2 := free_of (i := 2) hg
  have HG := hid hg
  clear hg
  simp only []
  go_wp2
  (try simp only [Exit.inBlock, Exit.then])
  refine bodyPost_ret (results_cell_row rfl _ _ (w.heap.size + 1) 97 _ (0, 0) _ rfl (put3 HG.out _ _ _) Try.underlying97 rfl size97) rfl ?_
  exact ⟨rfl, turns_set HM.out (turns_set HM.out (turns_set HM.out HT.out _ _ _ (by omega)) _ _ _ (by omega)) _ _ _ (by omega)⟩

set_option maxHeartbeats 1000000 in
theorem rdo_add {w : World} {p b : Nat} {s : St} {k : Nat} (h : Mem 58 w p b s) (c : Cnt s k) (hk : k ≤ bnd) (ad a b' : Int) :
    Calls Try.prog 39 #[.pointer (some ⟨p, 0, none⟩), acV ⟨4, ad, a, b'⟩] w fun e w' => e = .returned (reV ⟨loadV s ad, false, errV s ad⟩) ∧ Turns 58 p b w w' (addT s ad a) := by
  have HM := hid h
  have HC := hid c
  have HK := hid hk
  clear h c hk
  go_enter Try.func39, Try.ntmps39
  go_wp2_with fail
  have hM := (HM.out.below (below_alloc w (.cells (acC ⟨4, ad, a, b'⟩) 48))).below (below_alloc _ (.cells #[.int .u64 0, .bool false, .int .i64 0] 97))
  refine (radd_any hM HC.out HK.out ad a).mono ?_
  rintro e w2 ⟨rfl, hT⟩
  obtain ⟨hg, T⟩ := rturns_new HM.out hT
  have HT := hid T
  clear T hT hM
  have d0 : w2.cell? ⟨w.heap.size + 1, 0, none⟩ = some (.int .u64 0) := cell_of hg rfl
  have d1 : w2.cell? ⟨w.heap.size + 1, 1, none⟩ = some (.bool false) := cell_of hg rfl
  have d2 : w2.cell? ⟨w.heap.size + 1, 2, none⟩ = some (.int .i64 0) := cell_of hg rfl
  have f0 := free_of (i := 0) hg
  have f1 := free_of (i := 1) hg
  have f2 := free_of (i := 2) hg
  have HG := hid hg
  clear hg
  simp only []
  go_wp2
  (try simp only [Exit.inBlock, Exit.then])
  refine bodyPost_ret (results_cell_row rfl _ _ (w.heap.size + 1) 97 _ (0, 0) _ rfl (put3 HG.out _ _ _) Try.underlying97 rfl size97) rfl ?_
  exact ⟨rfl, turns_set HM.out (turns_set HM.out (turns_set HM.out HT.out _ _ _ (by omega)) _ _ _ (by omega)) _ _ _ (by omega)⟩

set_option maxHeartbeats 1000000 in
theorem rdo_none {w : World} {p b : Nat} {s : St} (h : Mem 58 w p b s) (kd ad a b' : Int) (h1 : kd ≠ 1) (h2 : kd ≠ 2) (h3 : kd ≠ 3) (h4 : kd ≠ 4) :
    Calls Try.prog 39 #[.pointer (some ⟨p, 0, none⟩), acV ⟨kd, ad, a, b'⟩] w fun e w' => e = .returned (reV ⟨0, false, 1⟩) ∧ Turns 58 p b w w' s := by
  have HM := hid h
  have b1 : (kd == 1) = false := beq_eq_false_iff_ne.2 h1
  have b2 : (kd == 2) = false := beq_eq_false_iff_ne.2 h2
  have b3 : (kd == 3) = false := beq_eq_false_iff_ne.2 h3
  have b4 : (kd == 4) = false := beq_eq_false_iff_ne.2 h4
  clear h h1 h2 h3 h4
  go_enter Try.func39, Try.ntmps39
  go_wp2
  (try simp only [Exit.inBlock, Exit.then])
  refine bodyPost_ret (results_cell_row rfl _ _ (w.heap.size + 1) 97 #[.int .u64 0, .bool false, .int .i64 1] (0, 0) _ rfl (by (have := heap_alloc_new (w.alloc (.cells (acC ⟨kd, ad, a, b'⟩) 48)) (.cells #[.int .u64 0, .bool false, .int .i64 1] 97 (0, 0)); simpa using this)) Try.underlying97 rfl size97) rfl ?_
  have hB := bel_trans (below_alloc w (.cells (acC ⟨kd, ad, a, b'⟩) 48)) (below_alloc _ (.cells #[.int .u64 0, .bool false, .int .i64 1] 97 (0, 0)))
  exact ⟨rfl, HM.out.below hB, But.of_below hB⟩

theorem rdo_at {w : World} {p b : Nat} {s : St} {k : Nat} (h : Mem 58 w p b s) (c : Cnt s k) (hk : k ≤ bnd) (x : Ac) :
    Calls Try.prog 39 #[.pointer (some ⟨p, 0, none⟩), acV x] w fun e w' => e = .returned (reV (doR s x)) ∧ Turns 58 p b w w' (doT s x) := by
  obtain ⟨kd, ad, a, b'⟩ := x
  by_cases h1 : kd = 1
  · subst h1; exact rdo_load h c hk ad a b'
  · by_cases h2 : kd = 2
    · subst h2; exact rdo_store h c hk ad a b'
    · by_cases h3 : kd = 3
      · subst h3; exact rdo_cas h c hk ad a b'
      · by_cases h4 : kd = 4
        · subst h4; exact rdo_add h c hk ad a b'
        · have e1 : doR s ⟨kd, ad, a, b'⟩ = ⟨0, false, 1⟩ := by simp [doR, h1, h2, h3, h4]
          have e2 : doT s ⟨kd, ad, a, b'⟩ = s := by simp [doT, h1, h2, h3, h4]
          rw [e1, e2]
          exact rdo_none h kd ad a b' h1 h2 h3 h4
end Go.Proofs.Ytmglacaikpcjhaa
