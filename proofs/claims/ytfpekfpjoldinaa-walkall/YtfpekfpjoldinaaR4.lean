/- What the document's answer finds that goes on alone: the same function of the words as the program's. Conditions: the words are below 2^64, the counts below 2^62. -/
import Derived.Test.YtfpekfpjoldinaaR3
namespace Go.Proofs.Ytfpekfpjoldinaa
open Go.RowKit

set_option maxHeartbeats 1000000 in
theorem rright_at (root pg wt : Int) (w : World) : Calls Try.prog 25 #[.int .i64 root, .int .i64 pg, .int .i64 wt] w fun e w' => e = .returned (.bool (okW root pg wt)) ∧ w' = w := by
  by_cases h0 : 0 ≤ root
  · skip
    by_cases h1 : root ≤ 4095
    · skip
      by_cases h2 : 0 ≤ pg
      · skip
        by_cases h3 : pg ≤ 65535
        · skip
          by_cases h4 : 0 ≤ wt
          · skip
            by_cases h5 : wt ≤ 7
            · skip
              go_enter Try.func25, Try.ntmps25
              go_wp2
              go_ret
              refine ⟨?_, rfl⟩
              first | (simp [okW, P.btw, *]; done) | (simp [okW, P.btw, *]; intros; omega)
            · skip
              go_enter Try.func25, Try.ntmps25
              go_wp2
              go_ret
              refine ⟨?_, rfl⟩
              first | (simp [okW, P.btw, *]; done) | (simp [okW, P.btw, *]; intros; omega)
          · skip
            go_enter Try.func25, Try.ntmps25
            go_wp2
            go_ret
            refine ⟨?_, rfl⟩
            first | (simp [okW, P.btw, *]; done) | (simp [okW, P.btw, *]; intros; omega)
        · skip
          go_enter Try.func25, Try.ntmps25
          go_wp2
          go_ret
          refine ⟨?_, rfl⟩
          first | (simp [okW, P.btw, *]; done) | (simp [okW, P.btw, *]; intros; omega)
      · skip
        go_enter Try.func25, Try.ntmps25
        go_wp2
        go_ret
        refine ⟨?_, rfl⟩
        first | (simp [okW, P.btw, *]; done) | (simp [okW, P.btw, *]; intros; omega)
    · skip
      go_enter Try.func25, Try.ntmps25
      go_wp2
      go_ret
      refine ⟨?_, rfl⟩
      first | (simp [okW, P.btw, *]; done) | (simp [okW, P.btw, *]; intros; omega)
  · skip
    go_enter Try.func25, Try.ntmps25
    go_wp2
    go_ret
    refine ⟨?_, rfl⟩
    first | (simp [okW, P.btw, *]; done) | (simp [okW, P.btw, *]; intros; omega)

def newR (root pg wt : Int) : Wr := ⟨root, pg, wt, 3, false, ⟨0, 0, 0, 0⟩⟩
set_option maxHeartbeats 400000 in
theorem rnew_at (root pg wt : Int) (w : World) : Calls Try.prog 26 #[.int .i64 root, .int .i64 pg, .int .i64 wt] w fun e w' => e = .returned (.pointer (some ⟨w.heap.size, 0, none⟩)) ∧ w' = w.alloc (.cells (wrC (newR root pg wt) (.slice none 0 0)) 69) := by
  go_enter Try.func26, Try.ntmps26
  go_wp2
  go_ret
  exact ⟨rfl, rfl⟩
theorem size30 : (Try.prog.info? 30).map (·.size) = some 4 := by kernel_rfl
set_option maxHeartbeats 400000 in
theorem plain_at (d : Fd) (w : World) : Calls Try.prog 9 #[fdV d] w fun e w' => e = .returned (fdV d) ∧ Below w.heap.size w w' := by
  obtain ⟨a, b, c, e⟩ := d
  show Calls Try.prog 9 #[.agg #[.int .i64 a, .int .i64 b, .int .i64 c, .int .i64 e]] w _
  go_enter Try.func9, Try.ntmps9
  go_wp2
  (try simp only [Exit.inBlock, Exit.then])
  refine bodyPost_ret (results_cell_row rfl _ _ (w.heap.size + 1) 30 _ (0, 0) _ rfl (P.two_new w _ _).2 Try.underlying30 rfl size30) rfl ?_
  exact ⟨rfl, P.btwo w _ _⟩

set_option maxHeartbeats 400000 in
theorem rstep_done {w : World} {g : Nat} {y : Wr} {pv : Value} (h : IsR w g y pv) (hd : y.dn = true) (q : Value) :
    Calls Try.prog 27 #[.pointer (some ⟨g, 0, none⟩), q] w fun e w' => e = .returned (.bool true) ∧ w' = w := by
  have c4 := h.c4
  rw [hd] at c4
  clear h hd
  go_enter Try.func27, Try.ntmps27
  go_wp2
  go_ret
  exact ⟨rfl, rfl⟩

/-- The document's walker behind j steps, and what is to come of it. -/
structure Ri (xs : List Int) (r : Fd) (y : Wr) (j : Nat) : Prop where
  dn : y.dn = false
  ok : ROk y
  lv : y.lv = 3 - (j : Int)
  run : runF xs y.pg y.wt (3 - j) y.f = r
structure Rd (r : Fd) (y : Wr) : Prop where
  dn : y.dn = true
  fd : y.fd = r
theorem Ri.step {xs : List Int} {r : Fd} {y : Wr} {j : Nat} (h : Ri xs r y j) (hj : j ≤ 3) : (Ri xs r (stepR xs y) (j + 1) ∧ j + 1 ≤ 3) ∨ Rd r (stepR xs y) := by
  have hlv : y.lv = ((3 - j : Nat) : Int) := by have := h.lv; omega
  have hrun := h.run
  unfold stepR
  rw [hlv]
  obtain ⟨n, hn⟩ : ∃ n, 3 - j = n := ⟨_, rfl⟩
  rw [hn] at hrun ⊢
  cases ho : oc xs y.f y.pg y.wt n with
  | fin d =>
    right
    refine ⟨rfl, ?_⟩
    show d = r
    rw [← hrun, runF_fin ho]
  | go f =>
    left
    obtain ⟨g0, g1, g2⟩ := oc_go ho
    obtain ⟨m, rfl⟩ : ∃ m, n = m + 1 := ⟨n - 1, by omega⟩
    have k := h.ok
    have hm : 3 - (j + 1) = m := by omega
    refine ⟨⟨h.dn, ⟨k.pg0, k.pg1, g1, g2, by show 0 ≤ y.lv - 1; omega, by show y.lv - 1 ≤ 3; have := k.lv1; omega⟩, by show y.lv - 1 = 3 - ((j + 1 : Nat) : Int); omega, ?_⟩, by omega⟩
    show runF xs y.pg y.wt (3 - (j + 1)) f = r
    rw [hm, ← hrun, runF_go ho]
theorem Ri.new {xs : List Int} {root pg wt : Int} (h : okW root pg wt = true) : Ri xs (runF xs pg wt 3 root) (newR root pg wt) 0 := by
  unfold okW at h
  simp only [Bool.and_eq_true] at h
  have a := P.btw_yes.1 h.1.1
  have b := P.btw_yes.1 h.1.2
  exact ⟨rfl, ⟨b.1, b.2, a.1, a.2, by show (0 : Int) ≤ 3; decide, by show (3 : Int) ≤ 3; decide⟩, rfl, rfl⟩

set_option maxRecDepth 100000 in
set_option maxHeartbeats 2000000 in
theorem rall_yes {w : World} {q c : Nat} {t : St} {k : Nat} (h : Mem 85 w q c t) (cn : Cnt t k) (hk : k + 4 ≤ bnd) (u : U64 t.xs) (root pg wt : Int) (ok : okW root pg wt = true) :
    Calls Try.prog 11 #[.pointer (some ⟨q, 0, none⟩), .int .i64 root, .int .i64 pg, .int .i64 wt] w fun e w' => e = .returned (fdV (runF t.xs pg wt 3 root)) ∧ Ml 85 w' q c t 4 ∧ But q c w w' := by
  have HM := hid h
  have HC := hid cn
  have HK := hid hk
  have HU := hid u
  have HI := hid (Ri.new (xs := t.xs) ok)
  have HR := hid (fun W => rright_at root pg wt W)
  rw [ok] at HR
  have HN := hid (fun W => rnew_at root pg wt W)
  have hlt := h.lt
  clear h cn hk u ok
  generalize newR root pg wt = y0 at *
  generalize runF t.xs pg wt 3 root = r at *
  go_enter Try.func11, Try.ntmps11
  go_wp2_with fail
  refine (HR.out _).mono ?_
  rintro e w0 ⟨rfl, hw0⟩
  rw [hw0]
  clear hw0 w0 HR
  go_wp2_with fail
  refine (HN.out _).mono ?_
  rintro e w1 ⟨rfl, hw1⟩
  have m1 : Rw w1 (w.heap.size + 1) y0 0 := by
    rw [hw1]
    refine ⟨.slice none 0 0, [], ?_, World.ownsRow_nil _ _ _ _⟩
    have := heap_alloc_new (w.alloc (.cells #[.int .i64 0, .int .i64 0, .int .i64 0, .int .i64 0] 30)) (.cells (wrC y0 (.slice none 0 0)) 69 (0, 0))
    rw [World.size_alloc] at this
    exact this
  have m2 : w1.heap[w.heap.size]? = some (.cells #[.int .i64 0, .int .i64 0, .int .i64 0, .int .i64 0] 30 (0, 0)) := by
    rw [hw1]; exact P.hkeep (heap_alloc_new _ _) _
  have m3 : Below w.heap.size w w1 := by rw [hw1]; exact P.btwo w _ _
  rw [show (w.alloc (.cells #[.int .i64 0, .int .i64 0, .int .i64 0, .int .i64 0] 30)).heap.size = w.heap.size + 1 by simp]
  have M1 := hid m1
  have M2 := hid m2
  have M3 := hid m3
  have hs := m3.size
  have hg : w.heap.size < w.heap.size + 1 := Nat.lt_succ_self _
  clear m1 m2 m3 hw1 HN
  generalize w.heap.size + 1 = g at *
  have hqg : q < g := by omega
  have hcg : c < g := by omega
  go_wp2_with fail
  go_loopw [10] (fun i wr => ∃ j : Nat, j ≤ 4 ∧ i = .int .i64 j ∧ ∃ t' y n, Rw wr g y n ∧ (n = j ∧ Ri t.xs r y j ∨ Rd r y) ∧ Mem 85 wr q c t' ∧ Lds t t' j ∧ RB g q c w1 wr) (fun i _ => 4 - (intOf i).toNat)
  case atStart => exact ⟨0, Nat.zero_le _, rfl, t, y0, 0, M1.out, .inl ⟨rfl, HI.out⟩, HM.out.below M3.out, Lds.refl t, ⟨rfl, rfl, rfl, Nat.le_refl _, fun _ _ _ _ => rfl⟩⟩
  case round =>
    obtain ⟨j, hj, rfl, t', y, n, hW, hY, hM, hL, hB⟩ := hrel
    have UW := hid hW
    have UM := hid hM
    have UL := hid hL
    have UB := hid hB
    clear hW hM hL hB
    have hwj : IntKind.i64.wrap ((j : Int) + 1) = (j : Int) + 1 := i64w (by omega) (by omega)
    by_cases hlt4 : j < 4
    · rcases hY with ⟨hnj, hI⟩ | hD
      · have UI := hid hI
        obtain ⟨pv, vals, hR, hO⟩ := UW.out
        have HS := hid (rstep_go hR hO (by omega) hI.dn hI.ok UM.out (UL.out.cnt HC.out) (by have := HK.out; omega) (by rw [UL.out.xs]; exact HU.out) hqg hcg)
        rw [UL.out.xs] at HS
        have HT := hid (hI.step (by omega))
        clear hI hR hO
        generalize stepR t.xs y = y2 at *
        go_wp2_with fail
        refine HS.out.mono ?_
        rintro e w2 ⟨rfl, h1, h2, h3⟩
        have H1 := hid h1
        have H2 := hid h2
        have H3 := hid (UB.out.trans h3)
        have HL2 : Hid (Lds t (loadT t' (P.at' y.f y.pg y.lv)) (j + 1)) := hid (UL.out.load _)
        clear h1 h2 h3 HS
        go_wp2_with fail
        go_roundw
        case rel =>
          refine ⟨j + 1, by omega, by go_num, _, y2, n + 1, H1.out, ?_, H2.out, HL2.out, H3.out⟩
          rcases HT.out with a | a
          · exact .inl ⟨by omega, a.1⟩
          · exact .inr a
        case measure => simp [intOf]; omega
      · have UD := hid hD
        obtain ⟨pv, vals, hR, hO⟩ := UW.out
        have HS := hid (rstep_done hR hD.dn (.pointer (some ⟨q, 0, none⟩)))
        clear hD hR hO
        go_wp2_with fail
        refine HS.out.mono ?_
        rintro e w2 ⟨rfl, hw2⟩
        rw [hw2]
        clear hw2 w2 HS
        go_wp2_with fail
        go_roundw
        case rel => exact ⟨j + 1, by omega, by go_num, t', y, n, UW.out, .inr UD.out, UM.out, UL.out.mono (by omega), UB.out⟩
        case measure => simp [intOf]; omega
    · have hj4 : j = 4 := by omega
      have hD : Rd r y := by
        rcases hY with ⟨-, hI⟩ | hD
        · exact absurd hI.ok.lv0 (by have := hI.lv; omega)
        · exact hD
      obtain ⟨pv, vals, hR, -⟩ := UW.out
      have c5 := hR.c5
      have c6 := hR.c6
      have c7 := hR.c7
      have c8 := hR.c8
      rw [hD.fd] at c5 c6 c7 c8
      have hgw := hR.lt
      have hR3 := (UB.out.block w.heap.size hg (by omega) (by omega)).trans M2.out
      have d0 := cell_of (i := 0) hR3 rfl
      have d1 := cell_of (i := 1) hR3 rfl
      have d2 := cell_of (i := 2) hR3 rfl
      have d3 := cell_of (i := 3) hR3 rfl
      have f0 := free_of (i := 0) hR3
      have f1 := free_of (i := 1) hR3
      have f2 := free_of (i := 2) hR3
      have f3 := free_of (i := 3) hR3
      have HR3 := hid hR3
      have HL4 : Hid (Lds t t' 4) := hid (UL.out.mono hj)
      have HB : Hid (But q c w wr) := hid ⟨UB.out.os.trans M3.out.os, UB.out.tape.trans M3.out.tape, UB.out.output.trans M3.out.output, Nat.le_trans M3.out.size UB.out.size, fun x hx h1 h2 => (UB.out.block x (by omega) h1 h2).trans (M3.out.block x hx)⟩
      clear hR hR3 hD hY
      obtain ⟨ra, rb, rc, re⟩ := r
      simp only at c5 c6 c7 c8
      go_wp2
      (try simp only [Exit.inBlock, Exit.then])
      refine bodyPost_ret (results_cell_row rfl _ _ w.heap.size 30 _ (0, 0) _ rfl (P.put4 HR3.out _ _ _ _) Try.underlying30 rfl size30) rfl ?_
      have := UM.out.lt
      exact ⟨rfl, ⟨t', UM.out.keep (by rw [hoff (by omega), hoff (by omega), hoff (by omega), hoff (by omega)]) (by rw [hoff (by omega), hoff (by omega), hoff (by omega), hoff (by omega)]), HL4.out⟩, (((HB.out.fresh (Nat.le_refl _) _).fresh (Nat.le_refl _) _).fresh (Nat.le_refl _) _).fresh (Nat.le_refl _) _⟩
set_option maxHeartbeats 400000 in
theorem rall_no (w : World) (q : Value) (root pg wt : Int) (ok : okW root pg wt = false) :
    Calls Try.prog 11 #[q, .int .i64 root, .int .i64 pg, .int .i64 wt] w fun e w' => e = .returned (fdV ⟨0, 0, 0, 1⟩) ∧ Below w.heap.size w w' := by
  have HR := hid (fun W => rright_at root pg wt W)
  rw [ok] at HR
  clear ok
  go_enter Try.func11, Try.ntmps11
  go_wp2_with fail
  refine (HR.out _).mono ?_
  rintro e w1 ⟨rfl, hw1⟩
  rw [hw1]
  clear hw1 w1 HR
  go_wp2
  (try simp only [Exit.inBlock, Exit.then])
  refine bodyPost_ret (results_cell_row rfl _ _ w.heap.size 30 _ (0, 0) _ rfl (heap_alloc_new _ _) Try.underlying30 rfl size30) rfl ?_
  exact ⟨rfl, below_alloc _ _⟩
theorem rall_at {w : World} {q c : Nat} {t : St} {k : Nat} (h : Mem 85 w q c t) (cn : Cnt t k) (hk : k + 4 ≤ bnd) (u : U64 t.xs) (root pg wt : Int) :
    Calls Try.prog 11 #[.pointer (some ⟨q, 0, none⟩), .int .i64 root, .int .i64 pg, .int .i64 wt] w fun e w' => e = .returned (fdV (fAll t.xs root pg wt)) ∧ Ml 85 w' q c t 4 ∧ But q c w w' := by
  unfold fAll
  cases ok : okW root pg wt
  · refine (rall_no w _ root pg wt ok).mono fun e w' ⟨a, d⟩ => ⟨a.trans (by rw [if_neg (by simp)]), ⟨t, h.below d, (Lds.refl t).mono (by omega)⟩, But.of_below d⟩
  · rw [if_pos rfl]
    exact rall_yes h cn hk u root pg wt ok
end Go.Proofs.Ytfpekfpjoldinaa
