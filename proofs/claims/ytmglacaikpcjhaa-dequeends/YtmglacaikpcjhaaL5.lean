/- The walk of DequeEnds: for every number and every list the call returns true; nothing that lay before is changed. Condition: the list reads as such. -/
import Derived.Test.YtmglacaikpcjhaaF1
import Derived.Lib.MinMax
namespace Go.Proofs.Ytmglacaikpcjhaa
open Go.RowKit

theorem Es.first {w w1 : World} {n : Nat} (n1 : n ≤ 64) (k : Kn w (w.heap.size + 1) w.heap.size w1.heap.size 0 n (w1.alloc (.cells #[.int .i64 0, .int .i64 n] 34)) ⟨List.replicate 80 0, 0, 0⟩) : Ew w (w.heap.size + 1) w.heap.size w1.heap.size n 0 (w1.alloc (.cells #[.int .i64 0, .int .i64 n] 34)) [] :=
  ⟨_, ⟨0, 0, fun _ => 0⟩, k, rep_new n 80 (by omega), by simp, by simp, by simp, fun j hj => by simp at hj, by simp, sok_of (by kernel_rfl), cnt_of (by kernel_rfl)⟩

set_option maxRecDepth 100000 in
set_option maxHeartbeats 2000000 in
theorem ends_walk (z : Nat) (hz : z < 256) (bq : Option Addr) (bn bc : Nat) (bf : Nat → Nat) (w : World) (hPl : PL w bq bn bf) :
    Calls Try.prog 5 #[.int .u8 z, .slice bq bn bc] w fun e w' => e = .returned (.bool true) ∧ Below w.heap.size w w' := by
  have HPL := hid hPl
  have hbm := hPl.1
  unfold maxLen at hbm
  clear hPl
  obtain ⟨c64, hc64⟩ : ∃ c : Nat, z % 64 = c := ⟨_, rfl⟩
  have hcb : c64 < 64 := by omega
  have hz0 : (0 : Int) ≤ (z : Int) := by omega
  have hz1 : (z : Int) < 256 := by omega
  have htm : (z : Int).tmod 64 = (c64 : Int) := by rw [Int.tmod_eq_emod_of_nonneg (by omega)]; omega
  clear hc64
  go_enter Try.func5, Try.ntmps5
  go_wp2_with fail
  clear htm
  obtain ⟨n, hn⟩ : ∃ n : Nat, (n : Int) = 1 + (c64 : Int) := ⟨1 + c64, by simp⟩
  have hn0 : 1 ≤ n := by omega
  have hn1 : n ≤ 64 := by omega
  rw [← hn]
  clear hn hcb
  refine (new_yes 80 _ (by decide) (by decide)).mono ?_
  rintro e w1 ⟨rfl, hM1, hB1⟩
  have J0 := hid (Es.first hn1 (Kn.first (s := ⟨List.replicate 80 0, 0, 0⟩) 0 n hM1 hB1))
  clear hM1 hB1
  generalize w.heap.size + 1 = p at *
  generalize hq : w.heap.size = q at *
  have HWq := hid hq
  clear hq
  by_cases hbig : 200 < bn
  · have hd : (200 : Int) < (bn : Int) := by omega
    go_wp2_with fail
    refine (known_yes _).mono ?_
    rintro e w9 ⟨rfl, K⟩
    have HF := hid (J0.out.below K).bel
    clear K J0
    go_wp2
    go_ret
    exact ⟨rfl, HF.out⟩
  · have hd : ¬ (200 : Int) < (bn : Int) := by omega
    have hbn : bn ≤ 200 := by omega
    clear hbig
    go_wp2
    clear hd
    have F0 : Hid (Ff w p q w1.heap.size n 0 (w1.alloc (.cells #[.int .i64 0, .int .i64 n] 34)) (.slice none 0 0) []) := hid ⟨J0.out, Or.inl ⟨rfl, rfl⟩, by simp [Value.ownBlock], by simp [Value.ownBlock], by simp [Value.ownBlock]⟩
    clear J0
    generalize w1.alloc (.cells #[.int .i64 0, .int .i64 n] 34) = wa at *
    generalize w1.heap.size = r at *
    go_loopw [9, 10] (fun v ii wr => ∃ (i : Nat) (L : List Int), i ≤ bn ∧ ii = .int .i64 i ∧ Ff w p q r n i wr v L) (fun _ i _ => bn - (intOf i).toNat)
    case atStart => exact ⟨0, [], by omega, rfl, F0.out⟩
    case round =>
      obtain ⟨i, L, hi, rfl, hF⟩ := hrel
      have HF := hid hF
      clear hF F0
      by_cases hlt : i < bn
      · obtain ⟨bb, bo, rfl, hbb, hbc⟩ := HPL.out.2.2 (by omega)
        have bc1 : wr.cell? ⟨bb, bo + i, none⟩ = some (.int .u8 (bf i : Int)) := (HF.out.qw.bel.cell (p := ⟨bb, bo + i, none⟩) hbb).trans (hbc i hlt)
        clear hbc
        have hil : (i : Int) < (bn : Int) := by omega
        have hbf := HPL.out.2.1 i
        generalize bf i = y at *
        have hy0 : (0 : Int) ≤ (y : Int) := by omega
        have hy1 : (y : Int) < 256 := by omega
        obtain ⟨m, hm⟩ : ∃ m : Nat, y % 4 = m := ⟨_, rfl⟩
        have hmb : m < 4 := by omega
        have htm : (y : Int).tmod 4 = (m : Int) := by rw [Int.tmod_eq_emod_of_nonneg (by omega)]; omega
        clear hm
        have c0 := HF.out.qw.c0
        have c1 := HF.out.qw.c1
        obtain ⟨vq, vc, hvq⟩ := HF.out.wt.len
        subst hvq
        by_cases hm0 : m = 0
        · subst hm0
          go_wp2_with fail
          clear htm
          refine (pop_at _ (qok_n hn0 hn1)).mono ?_
          rintro e u ⟨g, rfl, hx, hg, K⟩
          have HC := hid (HF.out.qw.pop hn0 hn1 (by omega) hx hg K)
          clear hx hg K c0 c1
          rcases List.eq_nil_or_concat L with rfl | ⟨M, x, rfl⟩
          · simp only [List.length_nil] at *
            go_wp2_with fail
            refine HC.out.mono ?_
            rintro e w3 ⟨v, rfl, _, hQ, hK⟩
            have H6 : Hid (Ff w p q r n (i + 1) w3 (.slice vq 0 vc) []) := hid ⟨hQ, HF.out.wt.but HF.out.vp HF.out.vb hK, HF.out.vp, HF.out.vb, HF.out.vr⟩
            clear hQ hK HC HF
            rw [show decide (0 < 0) = false from rfl]
            go_wp2
            exact ⟨⟨i + 1, [], by omega, by go_num, H6.out⟩, by simp [intOf]; omega⟩
          · simp only [List.concat_eq_append, List.length_append, List.length_cons, List.length_nil, Nat.zero_add, List.dropLast_concat] at *
            have hll : M.length + 1 ≤ n := by have := HF.out.qw.len; simpa using this
            go_wp2_with fail
            refine HC.out.mono ?_
            rintro e w3 ⟨v, rfl, hv, hQ, hK⟩
            obtain rfl := hv M x rfl
            rw [show decide (0 < M.length + 1) = true by simp]
            obtain ⟨g2, off, cap, e1, hcap, hcm, hcell, htl⟩ := (HF.out.wt.but HF.out.vp HF.out.vb hK).last
            simp only [Value.slice.injEq] at e1
            obtain ⟨rfl, _, rfl⟩ := e1
            unfold maxLen at hcm
            have H6 : Hid (Ff w p q r n (i + 1) w3 (.slice (some ⟨g2, off, none⟩) M.length vc) M) := hid ⟨hQ, htl, HF.out.vp, HF.out.vb, HF.out.vr⟩
            have hxx : (v != v) = false := by simp
            have hmx : ∀ W : World, (Builtin.max_ #[3, 3] 3 #[.int .i64 0, .int .i64 (M.length : Int)]).run Try.prog W = .ok (.int .i64 (M.length : Int)) W := fun W => by
              have := Lib.run_max_ints (P := Try.prog) W #[3, 3] 3 .i64 .i64 0 (M.length : Int)
              rw [this, Int.max_eq_right (by omega)]
            clear hQ hK HC HF htl hv
            go_wp2
            exact ⟨⟨i + 1, M, by omega, by go_num, H6.out⟩, by simp [intOf]; omega⟩
        · by_cases hm1 : m = 1
          · subst hm1
            go_wp2_with fail
            clear htm
            refine (steal_at _ (qok_n hn0 hn1)).mono ?_
            rintro e u ⟨g, rfl, hx, hg, K⟩
            have HC := hid (HF.out.qw.steal hn0 hn1 (by omega) hx hg K)
            clear hx hg K c0 c1
            cases L with
            | nil =>
              simp only [List.length_nil] at *
              go_wp2_with fail
              refine HC.out.mono ?_
              rintro e w3 ⟨v, rfl, _, hQ, hK⟩
              have H6 : Hid (Ff w p q r n (i + 1) w3 (.slice vq 0 vc) []) := hid ⟨hQ, HF.out.wt.but HF.out.vp HF.out.vb hK, HF.out.vp, HF.out.vb, HF.out.vr⟩
              clear hQ hK HC HF
              rw [show decide (0 < 0) = false from rfl]
              go_wp2
              exact ⟨⟨i + 1, [], by omega, by go_num, H6.out⟩, by simp [intOf]; omega⟩
            | cons x M =>
              simp only [List.length_cons] at *
              have hll : M.length + 1 ≤ n := by have := HF.out.qw.len; simpa using this
              go_wp2_with fail
              refine HC.out.mono ?_
              rintro e w3 ⟨v, rfl, hv, hQ, hK⟩
              obtain rfl := hv M x rfl
              rw [show decide (0 < M.length + 1) = true by simp]
              obtain ⟨g2, off, cap, e1, hcap, hcm, hcell, htl⟩ := (HF.out.wt.but HF.out.vp HF.out.vb hK).head
              simp only [Value.slice.injEq] at e1
              obtain ⟨rfl, _, rfl⟩ := e1
              unfold maxLen at hcm
              have HTL := hid htl
              have HQ := hid hQ
              have hxx : (v != v) = false := by simp
              have HV := hid (And.intro HF.out.vp (And.intro HF.out.vb HF.out.vr))
              clear hQ hK HC htl HF hv
              go_wp2
              refine ⟨⟨i + 1, M, by omega, by go_num, ?_⟩, by simp [intOf]; omega⟩
              by_cases hvc : vc = 1
              · rw [if_pos hvc]
                exact ⟨HQ.out, HTL.out off (fun _ => rfl) (fun h => absurd hvc h), HV.out.1, HV.out.2.1, HV.out.2.2⟩
              · rw [if_neg hvc]
                exact ⟨HQ.out, HTL.out (off + 1) (fun h => absurd h hvc) (fun _ => rfl), HV.out.1, HV.out.2.1, HV.out.2.2⟩
          · have e0 : ((m : Int) == 0) = false := beq_eq_false_iff_ne.2 (by omega)
            have e1 : ((m : Int) == 1) = false := beq_eq_false_iff_ne.2 (by omega)
            have hiw : IntKind.u64.wrap (i : Int) = (i : Int) := u64w (by omega) (by omega)
            go_wp2_with fail
            clear htm e0 e1
            refine (push_at _ (i : Int) (qok_n hn0 hn1)).mono ?_
            rintro e u ⟨g, rfl, hx, hg, K⟩
            have HC := hid (HF.out.qw.push hn0 hn1 (by omega) (by omega) (by omega) hx hg K)
            clear hx hg K c0 c1
            by_cases hr : L.length < n
            · have hr2 : (L.length : Int) < (n : Int) := by omega
              have hd : decide (L.length < n) = true := by simpa using hr
              rw [hd, if_pos hr] at HC
              clear hd
              go_wp2_with fail
              refine HC.out.mono ?_
              rintro e w3 ⟨v, rfl, hQ, hK⟩
              have HX := hid (And.intro hQ hK)
              clear hQ hK HC
              have hw3 : (w3.alloc (.cells #[.int .u64 (i : Int)] 38)).cell? ⟨w3.heap.size, 0, none⟩ = some (.int .u64 (i : Int)) := cell_of (heap_alloc_new w3 (.cells #[.int .u64 (i : Int)] 38 (0, 0))) rfl
              go_wp2_with (at_builtin; (refine wpList_append_wt (L := L) (base := w.heap.size) rfl _ _ rfl _ rfl ?o0 (by omega) ?c5 (i : Int) ⟨w3.heap.size, 0, none⟩ _ rfl ?ad1 ?_))
              case o0 => exact (HF.out.wt.but HF.out.vp HF.out.vb HX.out.2).below (below_alloc _ _)
              case c5 => have := HX.out.1.bel.size; simp; omega
              case ad1 => exact hw3
              intro v' w6 hwt hgr hat
              have H6 := hid (Ff.append (HX.out.1.below (below_alloc w3 (.cells #[.int .u64 (i : Int)] 38))) HF.out.wt HF.out.vp HF.out.vb HF.out.vr hwt hgr (hat.imp id (fun h => h.trans (by simp))))
              clear hwt hgr hat HX HF hw3
              go_wp2
              exact ⟨⟨i + 1, _, by omega, by go_num, H6.out⟩, by simp [intOf]; omega⟩
            · have hr2 : (n : Int) ≤ (L.length : Int) := by omega
              have hd : decide (L.length < n) = false := by simpa using hr
              rw [hd, if_neg hr] at HC
              clear hd
              go_wp2_with fail
              refine HC.out.mono ?_
              rintro e w3 ⟨v, rfl, hQ, hK⟩
              have H6 : Hid (Ff w p q r n (i + 1) w3 (.slice vq L.length vc) L) := hid ⟨hQ, HF.out.wt.but HF.out.vp HF.out.vb hK, HF.out.vp, HF.out.vb, HF.out.vr⟩
              clear hQ hK HC HF
              go_wp2
              exact ⟨⟨i + 1, _, by omega, by go_num, H6.out⟩, by simp [intOf]; omega⟩
      · have hil : (bn : Int) ≤ (i : Int) := by omega
        have HB := hid HF.out.qw.bel
        clear HF
        go_wp2_with fail
        refine (known_yes _).mono ?_
        rintro e w9 ⟨rfl, K⟩
        have HFF := hid (bel_trans HB.out K)
        clear K HB
        go_wp2
        go_ret
        exact ⟨rfl, HFF.out⟩
end Go.Proofs.Ytmglacaikpcjhaa
