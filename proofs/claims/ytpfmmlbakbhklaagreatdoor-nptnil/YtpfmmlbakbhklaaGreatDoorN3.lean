/- What lay, words and stop return and leave, for every table, entry and page. Conditions: the words and frames lie in memory; few calls have been counted. -/
import Derived.Test.YtpfmmlbakbhklaaGreatDoorN2
namespace Go.Proofs.YtpfmmlbakbhklaaGreatDoor
open Go.RowKit
section
variable {u : Si} {w : World} {t : Nat} {st o root : Int} {s : Sm} {k : Nat}

theorem Wg.store_at (h : Wo u w s k) (hk : k ≤ bnd) (a v : Int) (hv : 0 ≤ v ∧ v < 18446744073709551616) :
    Calls Tryz.prog 100 #[.pointer (some ⟨u.mp, 0, none⟩), .int .i64 a, .int .u64 v] w fun e w' => (∃ x, e = .returned (.int .i64 x)) ∧ Wo u w' ⟨setW s.xs a v, s.ds⟩ (k + 1) ∧ Ch u w w' := by
  obtain ⟨d, l, hm, hd⟩ := h.mem
  refine (store_any (s := ⟨s.xs, d, l⟩) hm (k := k) ⟨hd.1, hd.2.1, hd.2.2.1, hd.2.2.2⟩ hk a v).mono ?_
  rintro e w' ⟨rfl, hM, hB⟩
  exact ⟨⟨_, rfl⟩, h.store hd hv hM hB, .of_but hB⟩

set_option maxHeartbeats 1000000 in
theorem lay_at' (hT : IsT u w t st o root) (h : Wo u w s k) (hk : k ≤ bnd) (a : Int) (e : P.En) :
    Calls Tryz.prog 57 #[.pointer (some ⟨t, 0, none⟩), .int .i64 a, P.eV e] w fun r w' => r = .returned (.tuple #[]) ∧ Wo u w' (lay s a e) (k + 1) ∧ Ch u w w' := by
  have HP := hid (fun W => P.pack_at e W)
  have HL := hid (pk_lt e)
  have HW := hid h
  have HT := hid hT
  have HK := hid hk
  obtain ⟨ep, er, el, ef⟩ := e
  unfold lay
  have hb := heap_alloc_new w (.cells #[.bool ep, .int .i64 er, .bool el, .int .i64 ef] 95)
  have HB := hid (below_alloc w (.cells #[.bool ep, .int .i64 er, .bool el, .int .i64 ef] 95))
  generalize hpk : P.pk ⟨ep, er, el, ef⟩ = pv at *
  generalize P.pkE ⟨ep, er, el, ef⟩ = pe at *
  clear h hT hk hpk
  unfold P.eV at HP
  simp only at HP
  show Calls Tryz.prog 57 #[.pointer (some ⟨t, 0, none⟩), .int .i64 a, .agg #[.bool ep, .int .i64 er, .bool el, .int .i64 ef]] w _
  go_enter Tryz.func57, Tryz.ntmps57
  go_wp2_with fail
  refine (HP.out _).mono ?_
  rintro r w1 ⟨rfl, hB⟩
  have HB1 := hid (P.bgo HB.out hB)
  obtain ⟨-, c1, -⟩ := (HT.out.below HB1.out).cells
  clear hB HB hb
  unfold P.wtwo
  go_wp2_with fail
  refine ((HW.out.below HB1.out).store_at HK.out _ _ HL.out).mono ?_
  rintro r w2 ⟨⟨x, rfl⟩, hW2, hC2⟩
  have HW2 := hid hW2
  have HC2 := hid hC2
  clear hW2 hC2 c1
  go_wp2
  go_end0
  exact ⟨rfl, HW2.out, (Ch.of_below HB1.out).trans HC2.out⟩

set_option maxHeartbeats 1000000 in
theorem words_at (hT : IsT u w t st o root) (h : Wo u w s k) (fr v : Int) :
    Calls Tryz.prog 88 #[.pointer (some ⟨t, 0, none⟩), .agg (tbC fr v)] w fun r w' => ∃ x, r = .returned x ∧ Lies w' x (cutW s.xs (P.at' fr 0 0) 16) ∧ Below w.heap.size w w' := by
  have hB0 : Below w.heap.size w (w.alloc (.cells #[.int .i64 fr, .int .i64 v] 93)).drew := (below_alloc w _).drew
  have c0 : (w.alloc (.cells #[.int .i64 fr, .int .i64 v] 93)).drew.cell? ⟨w.heap.size, 0, none⟩ = some (.int .i64 fr) := cell_new w #[.int .i64 fr, .int .i64 v] 93 0 rfl
  obtain ⟨d, l, hm, -⟩ := h.mem
  obtain ⟨-, c1, -⟩ := (hT.below hB0).cells
  have HB := hid hB0
  have HA := hid (fun w => P.place_at fr 0 0 w)
  have HC := hid (words_any (s := ⟨s.xs, d, l⟩) (hm.below hB0) (P.at' fr 0 0) 16 (by decide))
  have hS : ∀ w2, Below (w.alloc (.cells #[.int .i64 fr, .int .i64 v] 93)).drew.heap.size (w.alloc (.cells #[.int .i64 fr, .int .i64 v] 93)).drew w2 → w2.cell? ⟨t, 1, none⟩ = some (.pointer (some ⟨u.mp, 0, none⟩)) ∧ w2.cell? ⟨w.heap.size, 0, none⟩ = some (.int .i64 fr) := fun w2 b => ⟨(b.cell (p := ⟨t, 1, none⟩) (hT.below hB0).lt).trans c1, (b.cell (p := ⟨w.heap.size, 0, none⟩) (by simp)).trans c0⟩
  have HS := hid hS
  show Calls Tryz.prog 88 #[.pointer (some ⟨t, 0, none⟩), .agg #[.int .i64 fr, .int .i64 v]] w _
  show Calls Tryz.prog 88 #[.pointer (some ⟨t, 0, none⟩), .agg #[.int .i64 fr, .int .i64 v]] w fun r w' => ∃ x, r = .returned x ∧ Lies w' x (wordsV ⟨s.xs, d, l⟩ (P.at' fr 0 0) 16) ∧ Below w.heap.size w w'
  generalize wordsV ⟨s.xs, d, l⟩ (P.at' fr 0 0) 16 = L at *
  generalize P.at' fr 0 0 = a at *
  clear h hT hm hB0 hS
  go_enter Tryz.func88, Tryz.ntmps88
  go_wp2
  go_region_held3 (fun w' => w'.cell? ⟨t, 1, none⟩ = some (.pointer (some ⟨u.mp, 0, none⟩)) ∧ w'.cell? ⟨w.heap.size, 0, none⟩ = some (.int .i64 fr)) (first | exact ⟨c1, c0⟩ | assumption)
    (first
      | (go_at_call 103; refine (HA.out _).mono ?_; rintro e w' ⟨rfl, hw'⟩; rw [hw']; clear hw' w')
      | (go_at_call 29; refine HC.out.mono ?_; rintro e w2 ⟨x, rfl, hL, hB⟩; have hL2 := hid hL; have hS2 := HS.out _ hB; have hB2 := hid hB; clear hL hB))
  all_goals go_wp2
  all_goals go_ret
  all_goals exact ⟨_, rfl, hL2.out, P.bgo HB.out hB2.out⟩
end
end Go.Proofs.YtpfmmlbakbhklaaGreatDoor
