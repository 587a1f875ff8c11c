/- The walk of TicketEnds: for every number the call returns true; nothing that lay before is changed. No conditions. -/
import Derived.Test.YtidgajjahpbbdaaY7
import Derived.Test.YtidgajjahpbbdaaL6
namespace Go.Proofs.Ytidgajjahpbbdaa
open Go.RowKit

theorem sy_load {w0 w w' : World} {p b : Nat} {n s d l : Int} {k c : Nat} {G : Nat → Nat} {f : Nat → Ho} {v : Value} (H : Sy w0 w p b [] (s2 n s d l) k G f v) (hc : Cnt (s2 n s d l) c) (a : Int) (h0 : 0 ≤ a) (h1 : a < 2) (K : Turns 59 p b w w' (loadT (s2 n s d l) a)) : Sy w0 w' p b [] (s2 n s (d + 1) l) k G f v ∧ Cnt (s2 n s (d + 1) l) (c + 1) := by
  have e : loadT (s2 n s d l) a = s2 n s (d + 1) l := by
    have : there (s2 n s d l) a = true := inB_yes.2 ⟨h0, h1⟩
    unfold loadT; rw [if_pos this]
  have hc := hc.load a
  rw [e] at K hc
  exact ⟨H.load K, hc⟩

set_option maxRecDepth 100000 in
set_option maxHeartbeats 2000000 in
theorem ends_walk (y : Nat) (hy : y < 256) (w : World) :
    Calls Try.prog 5 #[.int .u8 y] w fun e w' => e = .returned (.bool true) ∧ Below w.heap.size w w' := by
  obtain ⟨c6, hc6⟩ : ∃ c : Nat, y % 20 = c := ⟨_, rfl⟩
  have hc6b : c6 < 20 := by omega
  have hy0 : (0 : Int) ≤ (y : Int) := by omega
  have hy1 : (y : Int) < 256 := by omega
  have htm : (y : Int).tmod 20 = (c6 : Int) := by rw [Int.tmod_eq_emod_of_nonneg (by omega)]; omega
  clear hc6
  go_enter Try.func5, Try.ntmps5
  go_wp2_with fail
  refine (new_yes 2 _ (by decide) (by decide)).mono ?_
  rintro e w1 ⟨rfl, hM1, hB1⟩
  have HM1 := hid hM1
  have HB1 := hid hB1
  have u1 := hM1.lt
  clear hM1 hB1
  go_wp2_with fail
  clear htm
  obtain ⟨m, hk⟩ : ∃ k : Nat, (k : Int) = 1 + (c6 : Int) := ⟨1 + c6, by simp⟩
  have hm0 : 0 < m := by omega
  have hm20 : m ≤ 20 := by omega
  rw [← hk]
  clear hk hc6b
  refine (start_at (w0 := w) (s := ⟨List.replicate 2 0, 0, 0⟩) 0 m HM1.out HB1.out (by omega) (by omega) (by decide) (by decide) (by omega)).mono ?_
  rintro e w2 ⟨v, G, f, rfl, hS, hf, _, _, _⟩
  have H0 := hid (En.first hS hf)
  clear hS hf HM1 HB1 u1
  generalize w.heap.size + 1 = p at *
  obtain ⟨b, hb⟩ : ∃ b, w.heap.size = b := ⟨_, rfl⟩
  have H0' : Hid (En w w2 p b 0 0 m G v) := by rw [← hb]; exact H0
  clear H0 hb
  go_wp2
  go_loopw [8] (fun i wr => ∃ j : Nat, j ≤ 4 * m + 4 ∧ i = .int .i64 j ∧ En w wr p b j 0 m G v) (fun i _ => 4 * m + 4 - (intOf i).toNat)
  case atStart => exact ⟨0, Nat.zero_le _, rfl, H0'.out⟩
  case round =>
    obtain ⟨j, hj, rfl, hO⟩ := hrel
    have HO := hid hO
    clear hO H0'
    by_cases hlt : j < 4 * m + 4
    · have hjl : decide ((j : Int) < 4 * (m : Int) + 4) = true := by simp; omega
      have hjl2 : decide ((j : Int) < (m : Int) * 4 + 4) = true := by simp; omega
      go_wp2
      go_loopw [9] (fun i wr => ∃ k : Nat, k ≤ m ∧ i = .int .i64 k ∧ En w wr p b j k m G v) (fun i _ => m - (intOf i).toNat)
      case atStart => exact ⟨0, Nat.zero_le _, rfl, HO.out⟩
      case round =>
        rename World => wo
        obtain ⟨k, hk, rfl, hE⟩ := hrel
        have HE := hid hE
        clear hE HO
        by_cases hkm : k < m
        · obtain ⟨sq, sc, rfl, hsc, hscm, hsl⟩ := HE.out.slice hm0
          have si := hsl k hkm
          unfold ptr at si
          have hk0 : (0 : Int) ≤ (k : Int) := Int.natCast_nonneg k
          have hk1 : (k : Int) < (m : Int) := Int.ofNat_lt.2 hkm
          obtain ⟨s, x, s', x', h1, h2, h3, e1, e2, hv, h4⟩ := HE.out.step hkm (by omega)
          have HST := hid (hstep_at h1 h2 h3 (by unfold bnd; omega))
          rw [e1, e2] at HST
          have HV := hid (hv sq rfl)
          have H4 := hid h4
          clear h1 h2 h3 e1 e2 h4 hv HE hsl
          have hsq := World.block_lt_of_cell? _ ⟨sq, k, none⟩ si
          go_wp2_with fail
          refine HST.out.mono ?_
          rintro e w3 ⟨rfl, hY⟩
          have si : w3.cell? ⟨sq, k, none⟩ = some (.pointer (some ⟨G k, 0, none⟩)) := (World.cell?_of_block (a := ⟨sq, k, none⟩) (hY.2.block _ hsq HV.out.1 HV.out.2.1 HV.out.2.2)).trans si
          have hsq3 := World.block_lt_of_cell? _ ⟨sq, k, none⟩ si
          have HY := hid hY
          clear hY HST hsq
          generalize x'.st = xs
          go_wp2_with fail
          refine (leave_at HY.out.1.ho).mono ?_
          rintro e w4 ⟨rfl, hZ⟩
          have H5 := hid (H4.out w3 w4 HY.out hZ)
          clear hZ HY H4 si
          generalize lvV x' = xl
          go_wp2
          go_roundw
          case rel => exact ⟨k + 1, by omega, by go_num, H5.out⟩
          case measure => simp [intOf]; omega
        · have ek : k = m := by omega
          subst ek
          have H5 := hid (HE.out.next (by omega))
          clear HE
          go_wp2
          go_roundw
          case rel => exact ⟨j + 1, by omega, by go_num, H5.out⟩
          case measure => simp [intOf]; omega
    · have ej : j = 4 * m + 4 := by omega
      subst ej
      have hjl : decide (((4 * m + 4 : Nat) : Int) < 4 * (m : Int) + 4) = false := by simp
      obtain ⟨d, l, f, h1, h2, h3⟩ := HO.out.last
      have H1 := hid h1
      have H2 := hid h2
      have H3 := hid h3
      clear h1 h2 h3 HO
      obtain ⟨sq, sc, rfl, hsc, hscm, hsl⟩ := H1.out.slice hm0
      have HSL := hid hsl
      have hsq := World.block_lt_of_cell? _ ⟨sq, 0, none⟩ (hsl 0 hm0)
      clear hsl
      go_wp2
      go_loopw [10] (fun i wr2 => ∃ k : Nat, k ≤ m ∧ i = .int .i64 k ∧ Below wr.heap.size wr wr2) (fun i _ => m - (intOf i).toNat)
      case atStart => exact ⟨0, Nat.zero_le _, rfl, Below.refl _ _⟩
      case round =>
        rename World => wo
        obtain ⟨k, hk, rfl, hB⟩ := hrel
        have HB := hid hB
        clear hB
        by_cases hkm : k < m
        · have si := (HB.out.cell (p := ⟨sq, k, none⟩) hsq).trans (HSL.out k hkm)
          unfold ptr at si
          have hsq2 := World.block_lt_of_cell? _ ⟨sq, k, none⟩ si
          have hk0 : (0 : Int) ≤ (k : Int) := Int.natCast_nonneg k
          have hk1 : (k : Int) < (m : Int) := Int.ofNat_lt.2 hkm
          have hkk : ((k : Int) != (k : Int)) = false := by simp
          have HST := hid (state_at ((H1.out.below HB.out).hs k hkm).ho)
          rw [H2.out k hkm] at HST
          simp only [] at HST
          go_wp2_with fail
          refine HST.out.mono ?_
          rintro e w3 ⟨rfl, mm, hm⟩
          have HB3 := hid (bel_trans HB.out (by rw [hm]; exact below_drewN (Below.refl _ _) mm : Below _ _ w3))
          clear hm HST HB si
          go_wp2
          go_roundw
          case rel => exact ⟨k + 1, by omega, by go_num, HB3.out⟩
          case measure => simp [intOf]; omega
        · have ek : k = m := by omega
          subst ek
          have H6 := hid (H1.out.below HB.out)
          clear HB HSL H1
          go_wp2_with fail
          refine (load_any H6.out.mem H3.out (by unfold bnd; omega) 0).mono ?_
          rintro e w4 ⟨rfl, hT⟩
          rw [show loadV (s2 k k d l) 0 = k from rfl, show errV (s2 k k d l) 0 = 0 from rfl]
          have H7 := hid (sy_load H6.out H3.out 0 (by decide) (by decide) hT)
          clear hT H6 H3
          go_wp2_with fail
          refine (load_any H7.out.1.mem H7.out.2 (by unfold bnd; omega) 1).mono ?_
          rintro e w5 ⟨rfl, hT⟩
          rw [show loadV (s2 k k (d + 1) l) 1 = k from rfl, show errV (s2 k k (d + 1) l) 1 = 0 from rfl]
          have H8 := hid (sy_load H7.out.1 H7.out.2 1 (by decide) (by decide) hT)
          clear hT H7
          have hkk : ((k : Int) == (k : Int)) = true := by simp
          go_wp2_with fail
          refine (known_yes _).mono ?_
          rintro e w9 ⟨rfl, K⟩
          have HF := hid (bel_trans H8.out.1.bel K)
          clear K H8
          go_wp2
          go_ret
          exact ⟨rfl, HF.out⟩
end Go.Proofs.Ytidgajjahpbbdaa
