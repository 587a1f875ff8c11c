/- What lay returns and leaves, with each of the two closures (Turn$1, Ref$1), for every pool whose descriptors lie in memory and every number. Condition: the table of rules lies in its variable. -/
import Derived.Test.YtpfmmlbakbhklaaGreatDoorOS2
namespace Go.Proofs.YtpfmmlbakbhklaaGreatDoor.O
open Go.RowKit


set_option maxRecDepth 100000 in
set_option maxHeartbeats 1000000 in
theorem turn_lay_out {w : World} {p b : Nat} {L : List Ds} (h : PP w p b L)  (B0 B1 : Nat)  (f : Int) (hf : ¬ (0 ≤ f ∧ f < L.length)) :
    Calls Tryz.prog 151 #[.pointer (some ⟨p, 0, none⟩), .int .i64 f, .func (.func 152) #[] #[.pointer (some ⟨B0, 0, none⟩), .pointer (some ⟨B1, 0, none⟩)]] w fun x w' => x = .returned (.int .i64 2) ∧ w' = w := by
  have HP := hid h
  have HF := hid hf
  clear h hf
  go_enter Tryz.func151, Tryz.ntmps151
  go_wp2_with fail
  refine (fault_out HP.out _ HF.out).mono ?_
  rintro x w1 ⟨rfl, rfl⟩
  go_wp2
  go_ret
  exact ⟨rfl, rfl⟩

set_option maxRecDepth 100000 in
set_option maxHeartbeats 1000000 in
theorem turn_lay_no {w : World} {p b : Nat} {L : List Ds} (h : PP w p b L) (k o : Int) (B0 B1 : Nat) (hT : Tab w) (h0 : w.cell? ⟨B0, 0, none⟩ = some (.int .i64 k)) (h1 : w.cell? ⟨B1, 0, none⟩ = some (.int .i64 o)) (i : Nat) (hi : i < L.length) (e' : Int) (hE : nxE (L.getD i zd) k o = e') (hne : (e' != 0) = true) :
    Calls Tryz.prog 151 #[.pointer (some ⟨p, 0, none⟩), .int .i64 i, .func (.func 152) #[] #[.pointer (some ⟨B0, 0, none⟩), .pointer (some ⟨B1, 0, none⟩)]] w fun x w' => x = .returned (.int .i64 e') ∧ Below w.heap.size w w' := by
  have HP := hid h
  obtain ⟨c, hc⟩ := h.slice
  obtain ⟨c0, c1, c2, c3⟩ := h.cells i hi
  have HI := hid hi
  have HL := hid h.top
  have hC := turn_clo (L.getD i zd).k (L.getD i zd).o (L.getD i zd).r (L.getD i zd).e k o B0 B1 w hT h0 h1
  have hE' : nxE ⟨(L.getD i zd).k, (L.getD i zd).o, (L.getD i zd).r, (L.getD i zd).e⟩ k o = e' := hE
  rw [hE'] at hC
  generalize nx ⟨(L.getD i zd).k, (L.getD i zd).o, (L.getD i zd).r, (L.getD i zd).e⟩ k o = d' at hC
  obtain ⟨x0, x1, x2, x3⟩ := d'
  have hn : L.length < 65536 := by have := HL.out; omega
  generalize (L.getD i zd).k = y0 at *
  generalize (L.getD i zd).o = y1 at *
  generalize (L.getD i zd).r = y2 at *
  generalize (L.getD i zd).e = y3 at *
  have HC := hid hC
  clear hT hC hE hE' h0 h1
  have HB0 := hid hi
  generalize hn' : L.length = n at hc hi hn
  have HN := hid hn'
  clear hn' h
  go_enter Tryz.func151, Tryz.ntmps151
  go_wp2_with fail
  refine (fault_in HP.out i HI.out).mono ?_
  rintro x w1 ⟨rfl, rfl⟩
  go_wp2_with fail
  refine HC.out.mono ?_
  rintro x w2 ⟨rfl, hB⟩
  have HB := hid hB
  clear hB
  (try unfold two)
  (try unfold dV)
  (try simp only [])
  go_wp2
  go_ret
  exact ⟨rfl, bgo HB.out (below_one _ _)⟩

set_option maxRecDepth 100000 in
set_option maxHeartbeats 1000000 in
theorem turn_lay_ok {w : World} {p b : Nat} {L : List Ds} (h : PP w p b L) (k o : Int) (B0 B1 : Nat) (hT : Tab w) (h0 : w.cell? ⟨B0, 0, none⟩ = some (.int .i64 k)) (h1 : w.cell? ⟨B1, 0, none⟩ = some (.int .i64 o)) (i : Nat) (hi : i < L.length) (e' : Int) (hE : nxE (L.getD i zd) k o = e') (hz : e' = 0) :
    Calls Tryz.prog 151 #[.pointer (some ⟨p, 0, none⟩), .int .i64 i, .func (.func 152) #[] #[.pointer (some ⟨B0, 0, none⟩), .pointer (some ⟨B1, 0, none⟩)]] w fun x w' => x = .returned (.int .i64 0) ∧ PP w' p b (L.set i (nxD (L.getD i zd) k o)) ∧ Bt b w w' := by
  have HP := hid h
  obtain ⟨c, hc⟩ := h.slice
  obtain ⟨c0, c1, c2, c3⟩ := h.cells i hi
  have HI := hid hi
  have HL := hid h.top
  have hC := turn_clo (L.getD i zd).k (L.getD i zd).o (L.getD i zd).r (L.getD i zd).e k o B0 B1 w hT h0 h1
  have hE' : nxE ⟨(L.getD i zd).k, (L.getD i zd).o, (L.getD i zd).r, (L.getD i zd).e⟩ k o = e' := hE
  rw [hE'] at hC
  subst hz
  have hD : nx ⟨(L.getD i zd).k, (L.getD i zd).o, (L.getD i zd).r, (L.getD i zd).e⟩ k o = nxD (L.getD i zd) k o := nx_ok hE'
  rw [hD] at hC
  generalize nxD (L.getD i zd) k o = d' at hC ⊢
  obtain ⟨x0, x1, x2, x3⟩ := d'
  have hn : L.length < 65536 := by have := HL.out; omega
  generalize (L.getD i zd).k = y0 at *
  generalize (L.getD i zd).o = y1 at *
  generalize (L.getD i zd).r = y2 at *
  generalize (L.getD i zd).e = y3 at *
  have HC := hid hC
  clear hT hC hE hE' hD h0 h1
  have HB0 := hid hi
  generalize hn' : L.length = n at hc hi hn
  have HN := hid hn'
  clear hn' h
  go_enter Tryz.func151, Tryz.ntmps151
  go_wp2_with fail
  refine (fault_in HP.out i HI.out).mono ?_
  rintro x w1 ⟨rfl, rfl⟩
  go_wp2_with fail
  refine HC.out.mono ?_
  rintro x w2 ⟨rfl, hB⟩
  have hP2 := (HP.out.below hB).alloc (.cells #[.int .i64 x0, .int .i64 x1, .int .i64 x2, .int .i64 x3] 64)
  have hQ := hP2
  have HB := hid hB
  clear hB c0 c1 c2 c3 hc
  (try unfold two)
  (try unfold dV)
  (try simp only [])
  obtain ⟨c, hc⟩ := hP2.slice
  rw [HN.out] at hc
  have f0 := hP2.free (i * 4)
  have f1 := hP2.free (i * 4 + 1)
  have f2 := hP2.free (i * 4 + 2)
  have f3 := hP2.free (i * 4 + 3)
  obtain ⟨c0, c1, c2, c3⟩ := hP2.cells i HI.out
  have a0 := heap_alloc_new w2 (.cells #[.int .i64 x0, .int .i64 x1, .int .i64 x2, .int .i64 x3] 64)
  obtain ⟨p00, p01, p02, p03, -, -, -, -⟩ := four a0
  have HQ := hid hQ
  clear hQ hP2 a0
  go_wp2_with fail
  go_region
  all_goals
    go_wp2
    go_ret
    refine ⟨rfl, (HQ.out.set i HI.out ⟨x0, x1, x2, x3⟩).drew, ?_⟩
    exact (Bt.of_below (bgo HB.out (below_one _ _))).trans (Bt.lay _ b i ⟨x0, x1, x2, x3⟩).drew

end Go.Proofs.YtpfmmlbakbhklaaGreatDoor.O
