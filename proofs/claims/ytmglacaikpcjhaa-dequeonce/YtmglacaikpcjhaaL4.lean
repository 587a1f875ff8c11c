/- The walk of DequeOnce: for every case the call returns true; nothing that lay before is changed. Condition: the case's lists read as such. -/
import Derived.Test.YtmglacaikpcjhaaY5
import Derived.Test.YtmglacaikpcjhaaKit3
import Derived.Test.YtmglacaikpcjhaaL6
import Derived.Deep.CutRange
namespace Go.Proofs.Ytmglacaikpcjhaa
open Go.RowKit

/-- The case's own block. -/
structure Bx (W : World) (q : Nat) (c : Cs) : Prop where
  c0 : W.cell? ⟨q, 0, none⟩ = some (.int .u8 c.za)
  c1 : W.cell? ⟨q, 1, none⟩ = some (.int .u8 c.zs)
  c2 : W.cell? ⟨q, 2, none⟩ = some (.slice c.vq c.vn c.vc)
  c3 : W.cell? ⟨q, 3, none⟩ = some (.int .u8 c.zp)
  c4 : W.cell? ⟨q, 4, none⟩ = some (.slice c.pq c.pn c.pc)
  c5 : W.cell? ⟨q, 5, none⟩ = some (.int .u8 c.zw)
  lt : q < W.heap.size
theorem Bx.new (w : World) (c : Cs) : Bx (w.alloc (.cells (csC c) 24)) w.heap.size c := by
  have h := heap_alloc_new w (.cells (csC c) 24 (0, 0))
  exact ⟨cell_of h rfl, cell_of h rfl, cell_of h rfl, cell_of h rfl, cell_of h rfl, cell_of h rfl, lt_of_block h⟩
theorem Bx.below {W W' : World} {q : Nat} {c : Cs} (h : Bx W q c) (k : Below W.heap.size W W') : Bx W' q c :=
  ⟨(k.cell (p := ⟨q, 0, none⟩) h.lt).trans h.c0, (k.cell (p := ⟨q, 1, none⟩) h.lt).trans h.c1, (k.cell (p := ⟨q, 2, none⟩) h.lt).trans h.c2, (k.cell (p := ⟨q, 3, none⟩) h.lt).trans h.c3, (k.cell (p := ⟨q, 4, none⟩) h.lt).trans h.c4, (k.cell (p := ⟨q, 5, none⟩) h.lt).trans h.c5, Nat.lt_of_lt_of_le h.lt k.size⟩
theorem CsOk.below {W W' : World} {c : Cs} {f z : Nat → Nat} (h : CsOk W c f z) (k : Below W.heap.size W W') : CsOk W' c f z := by
  refine { h with nl := ⟨h.nl.1, h.nl.2.1, fun hn => ?_⟩, pl := ⟨h.pl.1, h.pl.2.1, fun hn => ?_⟩ }
  · obtain ⟨b, off, e, h1, h2⟩ := h.nl.2.2 hn
    exact ⟨b, off, e, Nat.lt_of_lt_of_le h1 k.size, fun i hi => (k.cell (p := ⟨b, off + i, none⟩) h1).trans (h2 i hi)⟩
  · obtain ⟨b, off, e, h1, h2⟩ := h.pl.2.2 hn
    exact ⟨b, off, e, Nat.lt_of_lt_of_le h1 k.size, fun i hi => (k.cell (p := ⟨b, off + i, none⟩) h1).trans (h2 i hi)⟩
theorem bel_q0 {q : Nat} {w W w' : World} (h : Below q w W) (e : w.heap.size = q) (k : Below W.heap.size W w') : Below w.heap.size w w' := by
  subst e
  exact bel_trans h k

set_option maxRecDepth 100000 in
set_option maxHeartbeats 4000000 in
theorem once_walk (c : Cs) (f z : Nat → Nat) (w : World) (hC : CsOk w c f z) :
    Calls Try.prog 4 #[.agg (csC c)] w fun e w' => e = .returned (.bool true) ∧ Below w.heap.size w w' := by
  have HB0 := hid (Bx.new w c)
  have HC := hid (hC.below (below_alloc w (.cells (csC c) 24)))
  have hvm := hC.nl.1
  have hpm := hC.pl.1
  unfold maxLen at hvm hpm
  have hbs := hC.bs
  clear hC
  obtain ⟨za, zs, vq, vn, vc, zp, pq, pn, pc, zw⟩ := c
  simp only [] at hvm hpm hbs
  obtain ⟨c4, hc4⟩ : ∃ c : Nat, zs % 4 = c := ⟨_, rfl⟩
  have hcb : c4 < 4 := by omega
  have hs0 : (0 : Int) ≤ (zs : Int) := by omega
  have hs1 : (zs : Int) < 256 := by omega
  have htm : (zs : Int).tmod 4 = (c4 : Int) := by rw [Int.tmod_eq_emod_of_nonneg (by omega)]; omega
  clear hc4
  by_cases hbig : 20 < vn ∨ 300 < pn
  · by_cases hl1 : 20 < vn
    · have hd : decide ((20 : Int) < (vn : Int)) = true := by simp; omega
      clear hbig htm
      go_enter Try.func4, Try.ntmps4
      go_wp2_with fail
      refine (known_yes _).mono ?_
      rintro e w9 ⟨rfl, K⟩
      have HF := hid (bel_trans (below_alloc _ _) K)
      clear K
      go_wp2
      go_ret
      exact ⟨rfl, HF.out⟩
    · have hd : decide ((20 : Int) < (vn : Int)) = false := by simp; omega
      have hd2 : decide ((300 : Int) < (pn : Int)) = true := by simp; omega
      clear hbig htm
      go_enter Try.func4, Try.ntmps4
      go_wp2_with fail
      refine (known_yes _).mono ?_
      rintro e w9 ⟨rfl, K⟩
      have HF := hid (bel_trans (below_alloc _ _) K)
      clear K
      go_wp2
      go_ret
      exact ⟨rfl, HF.out⟩
  · have hd : decide ((20 : Int) < (vn : Int)) = false := by simp; omega
    have hd2 : decide ((300 : Int) < (pn : Int)) = false := by simp; omega
    have hvn : vn ≤ 20 := by omega
    have hpn : pn ≤ 300 := by omega
    clear hbig
    go_enter Try.func4, Try.ntmps4
    go_wp2_with fail
    clear htm hd hd2
    have HW0 := hid (below_alloc w (.cells (csC ⟨za, zs, vq, vn, vc, zp, pq, pn, pc, zw⟩) 24))
    generalize w.alloc (.cells #[.int .u8 (za : Int), .int .u8 (zs : Int), .slice vq vn vc, .int .u8 (zp : Int), .slice pq pn pc, .int .u8 (zw : Int)] 24) = W0 at *
    generalize hq0 : w.heap.size = q0 at *
    have HQ0 := hid hq0
    clear hq0
    obtain ⟨n, hn⟩ : ∃ n : Nat, (n : Int) = 1 + (c4 : Int) := ⟨1 + c4, by simp⟩
    have hn0 : 1 ≤ n := by omega
    have hn1 : n ≤ 4 := by omega
    rw [← hn]
    clear hn hcb
    refine (new_yes 20 _ (by decide) (by decide)).mono ?_
    rintro e w1 ⟨rfl, hM1, hB1⟩
    have K0 := hid (Kn.first (s := ⟨List.replicate 20 0, 0, 0⟩) 3 n hM1 hB1)
    clear hM1 hB1
    have c0 := K0.out.c0
    have c1 := K0.out.c1
    generalize W0.heap.size + 1 = p at *
    obtain ⟨q, hq⟩ : ∃ q, W0.heap.size = q := ⟨_, rfl⟩
    rw [hq] at K0
    clear hq
    have b2 := (HB0.out.below (K0.out.bel)).c2
    simp only [] at b2
    have hmk := run_make_row' (P := Try.prog) 61 3 (.int .i64 0) 8 Try.underlying61 info3 rfl .i64 .i64 vn (by omega) (by omega)
    go_wp2_with fail
    generalize w1.heap.size = r at *
    generalize w1.alloc (.cells #[.int .i64 3, .int .i64 (n : Int)] 34) = w2 at *
    have HM := hid (below_alloc w2 (.cells (madeCells #[(.int .i64 0 : Value)] vn) 3))
    have d0 := (K0.out.below HM.out).c0
    have d1 := (K0.out.below HM.out).c1
    have hXI : XI W0 p q r (w2.heap.size + 1) w2.heap.size n vn 0 6 (((w2.alloc (.cells (madeCells #[(.int .i64 0 : Value)] vn) 3)).alloc (.cells #[.pointer (some ⟨p, 0, none⟩), .int .i64 3, .int .i64 (n : Int), .pointer none, .bool false, .int .i64 0, .pointer none, .pointer none, .pointer none, .slice (some ⟨w2.heap.size, 0, none⟩) vn vn, .int .i64 0, .int .i64 0, .bool false] 64)).drew) := by
      refine XI.first (w := w2) K0.out ?_ ?_ ?_ (Nat.le_refl _) (by omega) (by omega) hn0 hn1
      · exact (bel_trans HM.out (below_alloc _ _)).drew
      · exact ((isH_new w2 vn).below (below_alloc _ _)).below (Below.refl _ _).drew
      · have hs : (w2.alloc (.cells (madeCells #[(.int .i64 0 : Value)] vn) 3)).heap.size = w2.heap.size + 1 := by first | (simp; done) | exact Array.size_push _ | rfl
        rw [← hs]
        exact IsX.below (heap_alloc_new _ _) (Below.refl _ _).drew
    have HI0 := hid hXI
    clear hXI
    go_region
    clear hmk d0 d1 b2 c0 c1 HM K0
    generalize w2.heap.size + 1 = gx at *
    generalize w2.heap.size = gh at *
    generalize ((w2.alloc (.cells (madeCells #[(.int .i64 0 : Value)] vn) 3)).alloc (.cells #[.pointer (some ⟨p, 0, none⟩), .int .i64 3, .int .i64 (n : Int), .pointer none, .bool false, .int .i64 0, .pointer none, .pointer none, .pointer none, .slice (some ⟨gh, 0, none⟩) vn vn, .int .i64 0, .int .i64 0, .bool false] 64)).drew = w3 at *
    go_wp2
    go_loopw [8] (fun i wr => ∃ k : Nat, k ≤ pn ∧ i = .int .i64 k ∧ XI W0 p q r gx gh n vn k 6 wr) (fun i _ => pn - (intOf i).toNat)
    case atStart => exact ⟨0, Nat.zero_le _, rfl, HI0.out⟩
    case round =>
      rename World => wr
      obtain ⟨k, hk, rfl, hI⟩ := hrel
      have HI := hid hI
      have b2 := (HB0.out.below hI.bel).c2
      have b4 := (HB0.out.below hI.bel).c4
      simp only [] at b2 b4
      clear hI HI0
      by_cases hlt : k < pn
      · have hkl : (k : Int) < (pn : Int) := by omega
        obtain ⟨pb, po, hpq, hpb, hpc⟩ := HC.out.pl.2.2 (by simp only []; omega)
        simp only [] at hpq hpc
        subst hpq
        have pc1 : wr.cell? ⟨pb, po + k, none⟩ = some (.int .u8 (z k : Int)) := (HI.out.bel.cell (p := ⟨pb, po + k, none⟩) hpb).trans (hpc k hlt)
        have hz256 := HC.out.pl.2.1 k
        clear hpc
        generalize z k = zj at pc1 hz256
        obtain ⟨i, hi⟩ : ∃ i, zj % 4 = i := ⟨_, rfl⟩
        have hik : i < 4 := by omega
        have hz0 : (0 : Int) ≤ (zj : Int) := Int.natCast_nonneg zj
        have hz1 : (zj : Int) < 256 := by omega
        have htm : (zj : Int).tmod 4 = (i : Int) := by rw [Int.tmod_eq_emod_of_nonneg hz0, ← hi]; simp
        clear hi
        by_cases h3 : i = 3
        · subst h3
          have HST := hid (HI.out.owner vq vc f (by exact HC.out.nl) hvn (by omega))
          go_wp2_with fail
          clear htm
          refine HST.out.mono ?_
          rintro e w4 ⟨rfl, hI4⟩
          have HI4 := hid hI4
          have e12 := hI4.c12
          clear hI4 HST b2 b4 pc1 HI
          go_wp2
          go_roundw
          case rel => exact ⟨k + 1, by omega, by go_num, HI4.out⟩
          case measure => simp [intOf]; omega
        · have h3b : ((i : Int) == 3) = false := beq_eq_false_iff_ne.2 (by omega)
          have HST := hid (HI.out.thief (j := i) hvn (by omega) (by omega))
          have hi0 : (0 : Int) ≤ (i : Int) := by omega
          have hi1 : (i : Int) < 3 := by omega
          go_wp2_with fail
          clear htm
          refine HST.out.mono ?_
          rintro e w4 ⟨rfl, hI4⟩
          have HI4 := hid hI4
          have e12 := hI4.c12
          clear hI4 HST b2 b4 pc1 HI
          go_wp2
          go_roundw
          case rel => exact ⟨k + 1, by omega, by go_num, HI4.out⟩
          case measure => simp [intOf]; omega
      · have hkl : (pn : Int) ≤ (k : Int) := by omega
        have HI1 := hid (HI.out.mono (k' := 300) (m' := 200) (by omega) (by omega))
        go_wp2
        clear b2 b4 HI hkl hlt hk
        go_loopw [10] (fun i wr => ∃ k : Nat, k ≤ 200 ∧ i = .int .i64 k ∧ XI W0 p q r gx gh n vn (300 + 2 * k) (200 - k) wr) (fun i _ => 200 - (intOf i).toNat)
        case atStart => exact ⟨0, by omega, rfl, HI1.out⟩
        case round =>
          rename World => wa
          obtain ⟨k2, hk2, rfl, hI⟩ := hrel
          have HI := hid hI
          clear hI HI1
          by_cases hlt : k2 < 200
          · have hkl : (k2 : Int) < 200 := by omega
            have hk20 : (0 : Int) ≤ (k2 : Int) := by omega
            obtain ⟨j, hj⟩ : ∃ j, k2 % 3 = j := ⟨_, rfl⟩
            have hj3 : j < 3 := by omega
            have htm : (k2 : Int).tmod 3 = (j : Int) := by rw [Int.tmod_eq_emod_of_nonneg hk20, ← hj]; simp
            clear hj
            go_wp2_with fail
            refine (HI.out.ownNil hvn (by omega)).mono ?_
            rintro e w4 ⟨rfl, hI4⟩
            have HST := hid (hI4.thief (j := j) hvn (by omega) hj3)
            clear hI4 HI
            go_wp2_with fail
            clear htm
            refine HST.out.mono ?_
            rintro e w5 ⟨rfl, hI5⟩
            have HI5 := hid (hI5.mono (k' := 300 + 2 * (k2 + 1)) (m' := 200 - (k2 + 1)) (by omega) (by omega))
            clear hI5 HST
            go_wp2
            go_roundw
            case rel => exact ⟨k2 + 1, by omega, by go_num, HI5.out⟩
            case measure => simp [intOf]; omega
          · have hkl : (200 : Int) ≤ (k2 : Int) := by omega
            have HJ0 : Hid (XJ W0 p q r gx gh n vn 700 10 wa) := hid (by have h := HI.out; rw [show k2 = 200 by omega] at h; exact h.rest (by omega))
            go_wp2
            clear HI hlt hk2 hkl
            go_loopw [11] (fun i wr => ∃ k : Nat, k ≤ 10 ∧ i = .int .i64 k ∧ XJ W0 p q r gx gh n vn (700 + 20 * k) (10 - k) wr) (fun i _ => 10 - (intOf i).toNat)
            case atStart => exact ⟨0, by omega, rfl, HJ0.out⟩
            case round =>
              rename World => wb
              obtain ⟨k3, hk3, rfl, hJ⟩ := hrel
              have HJ := hid hJ
              have c0 := hJ.c0
              have c1 := hJ.c1
              clear hJ HJ0
              by_cases hlt : k3 < 10
              · have hkl : (k3 : Int) < 10 := by omega
                go_wp2_with fail
                refine (pop_at _ (ad := 3) (sz := n) ⟨by omega, by omega, by omega, by omega⟩).mono ?_
                rintro e w4 ⟨g, rfl, hx4, hg4, hB4⟩
                have HST := hid (XJ.pop (m := 10 - (k3 + 1)) (by rw [show 10 - (k3 + 1) + 1 = 10 - k3 by omega]; exact HJ.out) hvn (by omega) hx4 hg4 hB4)
                clear hx4 hg4 hB4 c0 c1 HJ
                go_wp2_with fail
                refine HST.out.mono ?_
                rintro e w5 ⟨v, bb, rfl, hn5, hy5⟩
                clear HST
                cases bb
                · have HJ5 := hid (hn5 rfl)
                  clear hn5 hy5
                  go_wp2
                  go_roundw
                  case rel => exact ⟨k3 + 1, by omega, by go_num, HJ5.out⟩
                  case measure => simp [intOf]; omega
                · have HT5 := hid (hy5 rfl)
                  clear hn5 hy5
                  go_wp2_with fail
                  refine HT5.out.mono ?_
                  rintro e w6 ⟨rfl, hJ6⟩
                  have HJ6 := hid hJ6
                  clear hJ6 HT5
                  go_wp2
                  go_roundw
                  case rel => exact ⟨k3 + 1, by omega, by go_num, HJ6.out⟩
                  case measure => simp [intOf]; omega
              · have hkl : (10 : Int) ≤ (k3 : Int) := by omega
                obtain ⟨c, H, hE⟩ := XJ.ends (k := 700 + 20 * k3) (by have h := HJ.out; rw [show 10 - k3 = 0 by omega] at h; exact h)
                have HE0 := hid hE
                clear hE c0 c1 HJ
                go_wp2
                clear hlt hk3 hkl
                go_loopw [14] (fun i wr => ∃ k : Nat, k ≤ vn ∧ i = .int .i64 k ∧ XE W0 gx gh vn c H wr) (fun i _ => vn - (intOf i).toNat)
                case atStart => exact ⟨0, by omega, rfl, HE0.out⟩
                case round =>
                  rename World => wc
                  obtain ⟨k4, hk4, rfl, hE⟩ := hrel
                  have HE := hid hE
                  have b2 := (HB0.out.below hE.bel).c2
                  simp only [] at b2
                  have c9 := hE.x.xc.c9
                  have c10 := hE.x.xc.c10
                  have c11 := hE.x.xc.c11
                  have c12 := hE.x.xc.c12
                  rw [hE.cg, hE.cN] at c9
                  rw [hE.eq] at c10
                  generalize c.ta = ta at c10 c11
                  clear hE HE0
                  by_cases hlt : k4 < vn
                  · have hkl : (k4 : Int) < (vn : Int) := by omega
                    have hk40 : (0 : Int) ≤ (k4 : Int) := by omega
                    have hcell := HE.out.h.cell hlt
                    have h0 := HE.out.H0 k4
                    have h1 := HE.out.H1 k4
                    generalize H k4 = hv at hcell h0 h1
                    clear c10 c11 c12
                    go_wp2
                    go_roundw
                    case rel => exact ⟨k4 + 1, by omega, by go_num, HE.out⟩
                    case measure => simp [intOf]; omega
                  · have hkl : (vn : Int) ≤ (k4 : Int) := by omega
                    have HKN : Hid (Calls Try.prog 8 #[] wc.drew fun e w' => e = .returned (.bool true) ∧ (w'.cell? ⟨gx, 10, none⟩ = some (.int .i64 ta) ∧ w'.cell? ⟨gx, 11, none⟩ = some (.int .i64 ta) ∧ w'.cell? ⟨gx, 12, none⟩ = some (.bool false)) ∧ Hid (Below W0.heap.size W0 w')) := hid (by
                      refine (known_yes _).mono ?_
                      rintro e w' ⟨rfl, K⟩
                      have hB : Below wc.heap.size wc w' := bel_trans (Below.refl _ _).drew K
                      have hl := HE.out.x.lt
                      exact ⟨rfl, ⟨(hB.cell (p := ⟨gx, 10, none⟩) hl).trans c10, (hB.cell (p := ⟨gx, 11, none⟩) hl).trans c11, (hB.cell (p := ⟨gx, 12, none⟩) hl).trans c12⟩, bel_trans HE.out.bel hB⟩)
                    have hS0 : wc.drew.cell? ⟨gx, 10, none⟩ = some (.int .i64 ta) ∧ wc.drew.cell? ⟨gx, 11, none⟩ = some (.int .i64 ta) ∧ wc.drew.cell? ⟨gx, 12, none⟩ = some (.bool false) := ⟨c10, c11, c12⟩
                    have htt : (ta == ta) = true := by simp
                    clear c9
                    go_wp2_with fail
                    clear c10 c11 c12 b2
                    go_region_held3 (fun w' => w'.cell? ⟨gx, 10, none⟩ = some (.int .i64 ta) ∧ w'.cell? ⟨gx, 11, none⟩ = some (.int .i64 ta) ∧ w'.cell? ⟨gx, 12, none⟩ = some (.bool false)) (first | with_reducible exact hS0 | with_reducible assumption)
                      (first
                        | (go_at_call 8; refine HKN.out.mono ?_; rintro e4 w4 ⟨rfl, hS4, hX⟩))
                    all_goals (go_wp2; go_ret; exact ⟨rfl, bel_q0 HW0.out HQ0.out hX.out⟩)
end Go.Proofs.Ytmglacaikpcjhaa
