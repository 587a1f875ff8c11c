/- The walk of MemCounts: it returns true for every number of words and every script; nothing that lay before is changed. -/
import Derived.Test.YtkfmfnjkaeajeaaS
namespace Go.Proofs.Ytkfmfnjkaeajeaa
open Go.RowKit

theorem load_yes' {s : St} {a d l : Int} (h : there s a = true) (hd : s.d = d) (hl : s.l = l) : (loadT s a).d = d + 1 ∧ (loadT s a).l = l := by simp [loadT, h, hd, hl]
theorem load_no' {s : St} {a d l : Int} (h : there s a = false) (hd : s.d = d) (hl : s.l = l) : (loadT s a).d = d ∧ (loadT s a).l = l := by simp [loadT, h, hd, hl]
theorem store_yes' {s : St} {a v d l : Int} (h : there s a = true) (hd : s.d = d) (hl : s.l = l) : (storeT s a v).d = d + 1 ∧ (storeT s a v).l = l + 1 := by simp [storeT, h, hd, hl]
theorem store_no' {s : St} {a v d l : Int} (h : there s a = false) (hd : s.d = d) (hl : s.l = l) : (storeT s a v).d = d ∧ (storeT s a v).l = l := by simp [storeT, h, hd, hl]
theorem add_yes' {s : St} {a v d l : Int} (h : there s a = true) (hd : s.d = d) (hl : s.l = l) : (addT s a v).d = d + 1 ∧ (addT s a v).l = l + 1 := store_yes' h hd hl
theorem add_no' {s : St} {a v d l : Int} (h : there s a = false) (hd : s.d = d) (hl : s.l = l) : (addT s a v).d = d ∧ (addT s a v).l = l := store_no' h hd hl
theorem casV_out {s : St} {a o : Int} (h : there s a = false) : casV s a o = false := by simp [casV, h]
theorem cas_out' {s : St} {a o v d l : Int} (h : there s a = false) (hd : s.d = d) (hl : s.l = l) : (casT s a o v).d = d ∧ (casT s a o v).l = l := by simp [casT, h, hd, hl]
theorem cas_yes' {s : St} {a o v d l : Int} (h : there s a = true) (hx : s.xs.getD a.toNat 0 = o) (hd : s.d = d) (hl : s.l = l) : (casT s a o v).d = d + 1 ∧ (casT s a o v).l = l + 1 := by
  simp only [casT, h, if_pos hx, hd, hl]; exact ⟨rfl, rfl⟩
theorem cas_no' {s : St} {a o v d l : Int} (h : there s a = true) (hx : s.xs.getD a.toNat 0 ≠ o) (hd : s.d = d) (hl : s.l = l) : (casT s a o v).d = d + 1 ∧ (casT s a o v).l = l := by
  simp only [casT, h, if_neg hx, hd, hl]; exact ⟨rfl, rfl⟩
theorem casV_yes' {s : St} {a o : Int} (h : there s a = true) (hx : s.xs.getD a.toNat 0 = o) : casV s a o = true := by
  simp only [casV, h, hx, beq_self_eq_true]; rfl
theorem casV_no' {s : St} {a o : Int} (h : there s a = true) (hx : s.xs.getD a.toNat 0 ≠ o) : casV s a o = false := by
  have hb : (s.xs.getD a.toNat 0 == o) = false := beq_eq_false_iff_ne.2 hx
  simp only [casV, h, hb]; rfl

set_option maxRecDepth 100000 in
set_option maxHeartbeats 4000000 in
theorem counts_walk (q : Option Addr) (n c : Nat) (l : List Cl) (z : Nat) (w0 : World) (hn : n ≤ maxLen) (hl : l.length = n) (hz : z ≤ 255) (hS : Script w0 q l) :
    Calls Try.prog 7 #[.int .u8 z, .slice q n c] w0 fun e w' => e = .returned (.bool true) ∧ Below w0.heap.size w0 w' := by
  unfold maxLen at hn
  have HL : Hid (l.length = n) := hl
  have HS : Hid (Script w0 q l) := hS
  obtain ⟨t, ht⟩ : ∃ t : Nat, 1 + (z : Int) = t := ⟨1 + z, by omega⟩
  have ht1 : 1 ≤ t := by omega
  have ht2 : t ≤ 65536 := by omega
  clear hl hS
  go_enter Try.func7, Try.ntmps7
  go_wp2_with fail
  try rw [ht]
  refine (Kn.new w0 _ t (Below.refl _ _) ht1 ht2).mono ?_
  rintro e w1 ⟨p, b, rfl, K, -, -, -⟩
  clear ht ht1 ht2
  go_wp2
  go_loopw [7, 8, 9] (fun ca la i wr => ∃ (j : Nat) (s : St) (d l : Int), j ≤ n ∧ j ≤ 80 ∧ i = .int .i64 j ∧ ca = .int .i64 d ∧ la = .int .i64 l ∧ 0 ≤ d ∧ d ≤ j ∧ 0 ≤ l ∧ l ≤ j ∧ Hid (s.d = d ∧ s.l = l ∧ Cnt s j) ∧ Kn w0 wr p b s) (fun _ _ i _ => 80 - (intOf i).toNat)
  case atStart => exact ⟨0, _, 0, 0, Nat.zero_le _, Nat.zero_le _, rfl, rfl, rfl, Int.le_refl 0, Int.le_refl 0, Int.le_refl 0, Int.le_refl 0, ⟨rfl, rfl, ⟨Int.le_refl 0, Int.le_refl 0, Int.le_refl 0, Int.le_refl 0⟩⟩, K⟩
  case round =>
    clear K
    obtain ⟨j, s, d, lc, hj, hj', rfl, rfl, rfl, hd0, hd1, hl0, hl1, HP, K⟩ := hrel
    have HJ : Hid (j ≤ bnd ∧ j + 1 ≤ bnd) := by show _ ∧ _; unfold bnd; omega
    by_cases hlt : j < n ∧ j < 80
    · obtain ⟨hlt, hlt'⟩ := hlt
      obtain ⟨sb, off, rfl, hsb, hcell⟩ := HS.out (by have := HL.out; intro e; rw [e] at this; simp at this; omega)
      obtain ⟨o0, o1, o2, o3⟩ := hcell j (by rw [HL.out]; exact hlt)
      clear HS HL hcell
      generalize l.getD j noCl = o at o0 o1 o2 o3
      obtain ⟨kd, ad, oa, ob⟩ := o
      simp only at o0 o1 o2 o3
      have c0 := (K.bel.cell (p := ⟨sb, off + j * 4, none⟩) hsb).trans o0
      have c1 := (K.bel.cell (p := ⟨sb, off + j * 4 + 1, none⟩) hsb).trans o1
      have c2 := (K.bel.cell (p := ⟨sb, off + j * 4 + 2, none⟩) hsb).trans o2
      have c3 := (K.bel.cell (p := ⟨sb, off + j * 4 + 3, none⟩) hsb).trans o3
      have KO := K.ko kd ad oa ob
      clear o0 o1 o2 o3 hsb K
      by_cases h1 : kd = 1
      · subst h1
        cases hth : there s ad
        · skip
          go_wp2_with fail
          refine (KO.load HP.out.2.2 HJ.out.1 ad (loadV s ad) 2 (errV_no hth) rfl).mono ?_
          clear KO
          rintro e w2 ⟨rfl, KO⟩
          generalize loadV s ad = lv
          have HQ : Hid ((_ ∧ _) ∧ _) := ⟨load_no' hth HP.out.1 HP.out.2.1, HP.out.2.2.load ad⟩
          go_wp2_with fail
          refine (KO.count (d) (lc) HQ.out.1.1 HQ.out.1.2).mono ?_
          rintro e w3 ⟨rfl, KO3⟩
          have hK3 := KO3.kn HQ.out.2 HJ.out.2
          clear KO KO3
          have tx : (((d) : Int) != d) = false := by simp
          have ty : (((lc) : Int) != lc) = false := by simp
          go_wp2
          go_roundw
          case rel => exact ⟨j + 1, _, d, lc, by omega, by omega, by go_num, rfl, rfl, by omega, by omega, by omega, by omega, ⟨HQ.out.1.1, HQ.out.1.2, HQ.out.2⟩, hK3⟩
          case measure => simp [intOf]; omega
        · skip
          go_wp2_with fail
          refine (KO.load HP.out.2.2 HJ.out.1 ad (loadV s ad) 0 (errV_yes hth) rfl).mono ?_
          clear KO
          rintro e w2 ⟨rfl, KO⟩
          generalize loadV s ad = lv
          have HQ : Hid ((_ ∧ _) ∧ _) := ⟨load_yes' hth HP.out.1 HP.out.2.1, HP.out.2.2.load ad⟩
          go_wp2_with fail
          refine (KO.count (d + 1) (lc) HQ.out.1.1 HQ.out.1.2).mono ?_
          rintro e w3 ⟨rfl, KO3⟩
          have hK3 := KO3.kn HQ.out.2 HJ.out.2
          clear KO KO3
          have tx : (((d + 1) : Int) != d + 1) = false := by simp
          have ty : (((lc) : Int) != lc) = false := by simp
          go_wp2
          go_roundw
          case rel => exact ⟨j + 1, _, d + 1, lc, by omega, by omega, by go_num, rfl, rfl, by omega, by omega, by omega, by omega, ⟨HQ.out.1.1, HQ.out.1.2, HQ.out.2⟩, hK3⟩
          case measure => simp [intOf]; omega
      · have k1 : (kd == 1) = false := by simpa using h1
        by_cases h2 : kd = 2
        · subst h2
          clear k1 h1
          cases hth : there s ad
          · skip
            go_wp2_with fail
            refine (KO.store HP.out.2.2 HJ.out.1 ad oa 2 (errV_no hth)).mono ?_
            clear KO
            rintro e w2 ⟨rfl, KO⟩
            have HQ : Hid ((_ ∧ _) ∧ _) := ⟨store_no' (v := oa) hth HP.out.1 HP.out.2.1, HP.out.2.2.store ad oa⟩
            go_wp2_with fail
            refine (KO.count (d) (lc) HQ.out.1.1 HQ.out.1.2).mono ?_
            rintro e w3 ⟨rfl, KO3⟩
            have hK3 := KO3.kn HQ.out.2 HJ.out.2
            clear KO KO3
            have tx : (((d) : Int) != d) = false := by simp
            have ty : (((lc) : Int) != lc) = false := by simp
            go_wp2
            go_roundw
            case rel => exact ⟨j + 1, _, d, lc, by omega, by omega, by go_num, rfl, rfl, by omega, by omega, by omega, by omega, ⟨HQ.out.1.1, HQ.out.1.2, HQ.out.2⟩, hK3⟩
            case measure => simp [intOf]; omega
          · skip
            go_wp2_with fail
            refine (KO.store HP.out.2.2 HJ.out.1 ad oa 0 (errV_yes hth)).mono ?_
            clear KO
            rintro e w2 ⟨rfl, KO⟩
            have HQ : Hid ((_ ∧ _) ∧ _) := ⟨store_yes' (v := oa) hth HP.out.1 HP.out.2.1, HP.out.2.2.store ad oa⟩
            go_wp2_with fail
            refine (KO.count (d + 1) (lc + 1) HQ.out.1.1 HQ.out.1.2).mono ?_
            rintro e w3 ⟨rfl, KO3⟩
            have hK3 := KO3.kn HQ.out.2 HJ.out.2
            clear KO KO3
            have tx : (((d + 1) : Int) != d + 1) = false := by simp
            have ty : (((lc + 1) : Int) != lc + 1) = false := by simp
            go_wp2
            go_roundw
            case rel => exact ⟨j + 1, _, d + 1, lc + 1, by omega, by omega, by go_num, rfl, rfl, by omega, by omega, by omega, by omega, ⟨HQ.out.1.1, HQ.out.1.2, HQ.out.2⟩, hK3⟩
            case measure => simp [intOf]; omega
        · have k2 : (kd == 2) = false := by simpa using h2
          by_cases h3 : kd = 3
          · subst h3
            clear k1 h1 k2 h2
            cases hth : there s ad
            · skip
              go_wp2_with fail
              refine (KO.cas HP.out.2.2 HJ.out.1 ad oa ob 2 false (errV_no hth) (casV_out hth)).mono ?_
              clear KO
              rintro e w2 ⟨rfl, KO⟩
              have HQ : Hid ((_ ∧ _) ∧ _) := ⟨cas_out' (o := oa) (v := ob) hth HP.out.1 HP.out.2.1, HP.out.2.2.cas ad oa ob⟩
              go_wp2_with fail
              refine (KO.count (d) (lc) HQ.out.1.1 HQ.out.1.2).mono ?_
              rintro e w3 ⟨rfl, KO3⟩
              have hK3 := KO3.kn HQ.out.2 HJ.out.2
              clear KO KO3
              have tx : (((d) : Int) != d) = false := by simp
              have ty : (((lc) : Int) != lc) = false := by simp
              go_wp2
              go_roundw
              case rel => exact ⟨j + 1, _, d, lc, by omega, by omega, by go_num, rfl, rfl, by omega, by omega, by omega, by omega, ⟨HQ.out.1.1, HQ.out.1.2, HQ.out.2⟩, hK3⟩
              case measure => simp [intOf]; omega
            · by_cases hx : s.xs.getD ad.toNat 0 = oa
              · have HX : Hid _ := hx
                clear hx
                go_wp2_with fail
                refine (KO.cas HP.out.2.2 HJ.out.1 ad oa ob 0 true (errV_yes hth) (casV_yes' hth HX.out)).mono ?_
                clear KO
                rintro e w2 ⟨rfl, KO⟩
                have HQ : Hid ((_ ∧ _) ∧ _) := ⟨cas_yes' (v := ob) hth HX.out HP.out.1 HP.out.2.1, HP.out.2.2.cas ad oa ob⟩
                clear HX
                go_wp2_with fail
                refine (KO.count (d + 1) (lc + 1) HQ.out.1.1 HQ.out.1.2).mono ?_
                rintro e w3 ⟨rfl, KO3⟩
                have hK3 := KO3.kn HQ.out.2 HJ.out.2
                clear KO KO3
                have tx : (((d + 1) : Int) != d + 1) = false := by simp
                have ty : (((lc + 1) : Int) != lc + 1) = false := by simp
                go_wp2
                go_roundw
                case rel => exact ⟨j + 1, _, d + 1, lc + 1, by omega, by omega, by go_num, rfl, rfl, by omega, by omega, by omega, by omega, ⟨HQ.out.1.1, HQ.out.1.2, HQ.out.2⟩, hK3⟩
                case measure => simp [intOf]; omega
              · have HX : Hid _ := hx
                clear hx
                go_wp2_with fail
                refine (KO.cas HP.out.2.2 HJ.out.1 ad oa ob 0 false (errV_yes hth) (casV_no' hth HX.out)).mono ?_
                clear KO
                rintro e w2 ⟨rfl, KO⟩
                have HQ : Hid ((_ ∧ _) ∧ _) := ⟨cas_no' (v := ob) hth HX.out HP.out.1 HP.out.2.1, HP.out.2.2.cas ad oa ob⟩
                clear HX
                go_wp2_with fail
                refine (KO.count (d + 1) (lc) HQ.out.1.1 HQ.out.1.2).mono ?_
                rintro e w3 ⟨rfl, KO3⟩
                have hK3 := KO3.kn HQ.out.2 HJ.out.2
                clear KO KO3
                have tx : (((d + 1) : Int) != d + 1) = false := by simp
                have ty : (((lc) : Int) != lc) = false := by simp
                go_wp2
                go_roundw
                case rel => exact ⟨j + 1, _, d + 1, lc, by omega, by omega, by go_num, rfl, rfl, by omega, by omega, by omega, by omega, ⟨HQ.out.1.1, HQ.out.1.2, HQ.out.2⟩, hK3⟩
                case measure => simp [intOf]; omega
          · have k3 : (kd == 3) = false := by simpa using h3
            by_cases h4 : kd = 4
            · subst h4
              clear k1 k2 k3 h1 h2 h3
              cases hth : there s ad
              · skip
                go_wp2_with fail
                refine (KO.add HP.out.2.2 HJ.out.1 ad oa (loadV s ad) 2 (errV_no hth) rfl).mono ?_
                clear KO
                rintro e w2 ⟨rfl, KO⟩
                generalize loadV s ad = lv
                have HQ : Hid ((_ ∧ _) ∧ _) := ⟨add_no' (v := oa) hth HP.out.1 HP.out.2.1, HP.out.2.2.add ad oa⟩
                go_wp2_with fail
                refine (KO.count (d) (lc) HQ.out.1.1 HQ.out.1.2).mono ?_
                rintro e w3 ⟨rfl, KO3⟩
                have hK3 := KO3.kn HQ.out.2 HJ.out.2
                clear KO KO3
                have tx : (((d) : Int) != d) = false := by simp
                have ty : (((lc) : Int) != lc) = false := by simp
                go_wp2
                go_roundw
                case rel => exact ⟨j + 1, _, d, lc, by omega, by omega, by go_num, rfl, rfl, by omega, by omega, by omega, by omega, ⟨HQ.out.1.1, HQ.out.1.2, HQ.out.2⟩, hK3⟩
                case measure => simp [intOf]; omega
              · skip
                go_wp2_with fail
                refine (KO.add HP.out.2.2 HJ.out.1 ad oa (loadV s ad) 0 (errV_yes hth) rfl).mono ?_
                clear KO
                rintro e w2 ⟨rfl, KO⟩
                generalize loadV s ad = lv
                have HQ : Hid ((_ ∧ _) ∧ _) := ⟨add_yes' (v := oa) hth HP.out.1 HP.out.2.1, HP.out.2.2.add ad oa⟩
                go_wp2_with fail
                refine (KO.count (d + 1) (lc + 1) HQ.out.1.1 HQ.out.1.2).mono ?_
                rintro e w3 ⟨rfl, KO3⟩
                have hK3 := KO3.kn HQ.out.2 HJ.out.2
                clear KO KO3
                have tx : (((d + 1) : Int) != d + 1) = false := by simp
                have ty : (((lc + 1) : Int) != lc + 1) = false := by simp
                go_wp2
                go_roundw
                case rel => exact ⟨j + 1, _, d + 1, lc + 1, by omega, by omega, by go_num, rfl, rfl, by omega, by omega, by omega, by omega, ⟨HQ.out.1.1, HQ.out.1.2, HQ.out.2⟩, hK3⟩
                case measure => simp [intOf]; omega
            · have k4 : (kd == 4) = false := by simpa using h4
              clear h1 h2 h3 h4
              have HQ : Hid ((_ ∧ _) ∧ _) := ⟨And.intro HP.out.1 HP.out.2.1, HP.out.2.2.mono (Nat.le_succ j)⟩
              go_wp2_with fail
              refine (KO.count (d) (lc) HQ.out.1.1 HQ.out.1.2).mono ?_
              rintro e w3 ⟨rfl, KO3⟩
              have hK3 := KO3.kn HQ.out.2 HJ.out.2
              clear KO KO3
              have tx : (((d) : Int) != d) = false := by simp
              have ty : (((lc) : Int) != lc) = false := by simp
              go_wp2
              go_roundw
              case rel => exact ⟨j + 1, _, d, lc, by omega, by omega, by go_num, rfl, rfl, by omega, by omega, by omega, by omega, ⟨HQ.out.1.1, HQ.out.1.2, HQ.out.2⟩, hK3⟩
              case measure => simp [intOf]; omega
    · have hd : j = n ∨ (j < n ∧ j = 80) := by omega
      have tx : ((d : Int) == d) = true := by simp
      have ty : ((lc : Int) == lc) = true := by simp
      rcases hd with rfl | ⟨hjn, rfl⟩
      all_goals
        go_wp2_with fail
        refine (copy_at K.mem).mono ?_
        rintro e w2 ⟨p', b', rfl, hM, -, -, hB2⟩
        go_wp2_with fail
        refine (count_any (s := s) hM).mono ?_
        rintro e w3 ⟨rfl, hB3⟩
        rw [HP.out.1, HP.out.2.1]
        go_wp2_with fail
        refine (known_yes _).mono ?_
        rintro e w' ⟨rfl, hw'⟩
        have hB2' := K.bel.trans (hB2.mono K.bel.size)
        have hB3' := hB2'.trans (hB3.mono hB2'.size)
        have hB4' := hB3'.trans (hw'.mono hB3'.size)
        clear hM hB2 hB2' hB3 hB3' hw' K
        go_wp2
        go_ret
        exact ⟨rfl, hB4'⟩
end Go.Proofs.Ytkfmfnjkaeajeaa
