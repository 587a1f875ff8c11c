/- The walk of MemLast: it returns true for every script and every place; nothing that lay before is changed. -/
import Derived.Test.YtkfmfnjkaeajeaaS
namespace Go.Proofs.Ytkfmfnjkaeajeaa
open Go.RowKit

theorem rep_get (n t : Nat) : (List.replicate n (0 : Int)).getD t 0 = 0 := by
  rw [List.getD_eq_getElem?_getD, List.getElem?_replicate]
  split <;> rfl
theorem last_end {s : St} {j m : Nat} {t : Nat} {x : Int} (hx : s.xs.getD t 0 = x) (hl : s.xs.length = 16) (c : Cnt s m) (hm : m + 1 ≤ 2 * j) : (loadT s t).xs.getD t 0 = x ∧ (loadT s t).xs.length = 16 ∧ Cnt (loadT s t) (2 * j) := by
  rw [loadT_xs]
  exact ⟨hx, hl, (c.load t).mono hm⟩

set_option maxRecDepth 100000 in
set_option maxHeartbeats 4000000 in
theorem last_walk (q : Option Addr) (n c : Nat) (l : List Cl) (z : Nat) (w0 : World) (hn : n ≤ maxLen) (hl : l.length = n) (hz : z ≤ 255) (hS : Script w0 q l) :
    Calls Try.prog 4 #[.slice q n c, .int .u8 z] w0 fun e w' => e = .returned (.bool true) ∧ Below w0.heap.size w0 w' := by
  unfold maxLen at hn
  have HL : Hid (l.length = n) := hl
  have HS : Hid (Script w0 q l) := hS
  obtain ⟨t, ht⟩ : ∃ t : Nat, (z : Int) % 16 = t := ⟨z % 16, by omega⟩
  have ht16 : t < 16 := by omega
  clear hl hS
  go_enter Try.func4, Try.ntmps4
  go_wp2_with fail
  refine (Kn.new w0 _ 16 (Below.refl _ _) (by decide) (by decide)).mono ?_
  rintro e w1 ⟨p, b, rfl, K, -, -, -⟩
  go_wp2
  rw [ht]
  clear ht
  go_loopw [8, 9] (fun wa i wr => ∃ (j : Nat) (s : St) (x : Int), j ≤ n ∧ j ≤ 80 ∧ i = .int .i64 j ∧ wa = .int .u64 x ∧ Hid (s.xs.getD t 0 = x ∧ s.xs.length = 16 ∧ Cnt s (2 * j)) ∧ Kn w0 wr p b s) (fun _ i _ => 80 - (intOf i).toNat)
  case atStart => exact ⟨0, _, 0, Nat.zero_le _, Nat.zero_le _, rfl, rfl, ⟨rep_get _ _, by simp, ⟨Int.le_refl 0, Int.le_refl 0, Int.le_refl 0, Int.le_refl 0⟩⟩, K⟩
  case round =>
    clear K
    obtain ⟨j, s, x, hj, hj', rfl, rfl, HP, K⟩ := hrel
    have tt : ((t : Int) == t) = true := by simp
    have hJ : 2 * j ≤ bnd := by unfold bnd; omega
    have hJ1 : 2 * j + 1 ≤ bnd := by unfold bnd; omega
    have hJ2 : 2 * (j + 1) ≤ bnd := by unfold bnd; omega
    have HJ : Hid (2 * j ≤ bnd ∧ 2 * j + 1 ≤ bnd ∧ 2 * (j + 1) ≤ bnd) := ⟨hJ, hJ1, hJ2⟩
    clear hJ hJ1 hJ2
    by_cases hlt : j < n ∧ j < 80
    · obtain ⟨hlt, hlt'⟩ := hlt
      obtain ⟨sb, off, rfl, hsb, hcell⟩ := HS.out (by have := HL.out; intro e; rw [e] at this; simp at this; omega)
      obtain ⟨o0, o1, o2, o3⟩ := hcell j (by rw [HL.out]; exact hlt)
      clear HS HL hcell
      generalize l.getD j noCl = o at o0 o1 o2 o3
      obtain ⟨kd, ad, oa, ob⟩ := o
      simp only at o0 o1 o2 o3
      have c0 := (K.bel.cell (p := ⟨sb, off + j * 4, none⟩) hsb).trans o0
      have c1 := (K.bel.cell (p := ⟨sb, off + j * 4 + 1, none⟩) hsb).trans o1
      have c2 := (K.bel.cell (p := ⟨sb, off + j * 4 + 2, none⟩) hsb).trans o2
      have c3 := (K.bel.cell (p := ⟨sb, off + j * 4 + 3, none⟩) hsb).trans o3
      have KO := K.ko kd ad oa ob
      clear o0 o1 o2 o3 hsb K
      by_cases h2 : kd = 2
      · subst h2
        by_cases hat : ad = t
        · subst hat
          go_wp2_with fail
          refine (KO.store HP.out.2.2 HJ.out.1 t oa 0 (errV_t (by rw [HP.out.2.1]; exact ht16))).mono ?_
          clear KO
          rintro e w2 ⟨rfl, KO⟩
          obtain ⟨d0, d1, d2, d3⟩ := KO.o.cells
          go_wp2_with fail
          refine (KO.load (m := 2 * j + 1) (HP.out.2.2.store t oa) (by have := HJ.out; omega) t oa 0 (errV_t (by rw [(storeT_len s t oa).trans HP.out.2.1]; exact ht16)) (by rw [loadV_t (by rw [(storeT_len s t oa).trans HP.out.2.1]; exact ht16)]; exact storeT_eq (by rw [HP.out.2.1]; exact ht16))).mono ?_
          rintro e w3 ⟨rfl, KO3⟩
          obtain ⟨e1, e2, e3⟩ := last_end (j := j + 1) (storeT_eq (by rw [HP.out.2.1]; exact ht16)) ((storeT_len s t oa).trans HP.out.2.1) ((HP.out.2.2.store t oa)) (by omega)
          have HE : Hid ((loadT (storeT s t oa) t).xs.getD t 0 = oa ∧ (loadT (storeT s t oa) t).xs.length = 16 ∧ Cnt (loadT (storeT s t oa) t) (2 * (j + 1))) := ⟨e1, e2, e3⟩
          have hK3 := KO3.kn e3 HJ.out.2.2
          clear KO KO3 e1 e2 e3
          have tx : (oa != oa) = false := by simp
          go_wp2
          go_roundw
          case rel => exact ⟨j + 1, _, oa, by omega, by omega, by go_num, rfl, HE, hK3⟩
          case measure => simp [intOf]; omega
        · have tne : (ad == (t : Int)) = false := by simpa using hat
          have HA : Hid (ad ≠ t) := hat
          clear hat
          cases hth : there s ad
          · go_wp2_with fail
            refine (KO.store HP.out.2.2 HJ.out.1 ad oa 2 (errV_no hth)).mono ?_
            clear KO hth
            rintro e w2 ⟨rfl, KO⟩
            obtain ⟨d0, d1, d2, d3⟩ := KO.o.cells
            go_wp2_with fail
            refine (KO.load (m := 2 * j + 1) (HP.out.2.2.store ad oa) (by have := HJ.out; omega) t x 0 (errV_t (by rw [(storeT_len s ad oa).trans HP.out.2.1]; exact ht16)) (by rw [loadV_t (by rw [(storeT_len s ad oa).trans HP.out.2.1]; exact ht16)]; exact (storeT_ne HA.out).trans HP.out.1)).mono ?_
            rintro e w3 ⟨rfl, KO3⟩
            obtain ⟨e1, e2, e3⟩ := last_end (j := j + 1) ((storeT_ne HA.out).trans HP.out.1) ((storeT_len s ad oa).trans HP.out.2.1) ((HP.out.2.2.store ad oa)) (by omega)
            have HE : Hid ((loadT (storeT s ad oa) t).xs.getD t 0 = x ∧ (loadT (storeT s ad oa) t).xs.length = 16 ∧ Cnt (loadT (storeT s ad oa) t) (2 * (j + 1))) := ⟨e1, e2, e3⟩
            have hK3 := KO3.kn e3 HJ.out.2.2
            clear KO KO3 e1 e2 e3
            have tx : (x != x) = false := by simp
            go_wp2
            go_roundw
            case rel => exact ⟨j + 1, _, x, by omega, by omega, by go_num, rfl, HE, hK3⟩
            case measure => simp [intOf]; omega
          · go_wp2_with fail
            refine (KO.store HP.out.2.2 HJ.out.1 ad oa 0 (errV_yes hth)).mono ?_
            clear KO hth
            rintro e w2 ⟨rfl, KO⟩
            obtain ⟨d0, d1, d2, d3⟩ := KO.o.cells
            go_wp2_with fail
            refine (KO.load (m := 2 * j + 1) (HP.out.2.2.store ad oa) (by have := HJ.out; omega) t x 0 (errV_t (by rw [(storeT_len s ad oa).trans HP.out.2.1]; exact ht16)) (by rw [loadV_t (by rw [(storeT_len s ad oa).trans HP.out.2.1]; exact ht16)]; exact (storeT_ne HA.out).trans HP.out.1)).mono ?_
            rintro e w3 ⟨rfl, KO3⟩
            obtain ⟨e1, e2, e3⟩ := last_end (j := j + 1) ((storeT_ne HA.out).trans HP.out.1) ((storeT_len s ad oa).trans HP.out.2.1) ((HP.out.2.2.store ad oa)) (by omega)
            have HE : Hid ((loadT (storeT s ad oa) t).xs.getD t 0 = x ∧ (loadT (storeT s ad oa) t).xs.length = 16 ∧ Cnt (loadT (storeT s ad oa) t) (2 * (j + 1))) := ⟨e1, e2, e3⟩
            have hK3 := KO3.kn e3 HJ.out.2.2
            clear KO KO3 e1 e2 e3
            have tx : (x != x) = false := by simp
            go_wp2
            go_roundw
            case rel => exact ⟨j + 1, _, x, by omega, by omega, by go_num, rfl, HE, hK3⟩
            case measure => simp [intOf]; omega
      · have k2 : (kd == 2) = false := by simpa using h2
        by_cases h3 : kd = 3
        · subst h3
          clear k2 h2
          by_cases hat : ad = t
          · subst hat
            by_cases hxo : x = oa
            · subst hxo
              have txx : (x == x) = true := by simp
              go_wp2_with fail
              refine (KO.cas HP.out.2.2 HJ.out.1 t x ob 0 true (errV_t (by rw [HP.out.2.1]; exact ht16)) (casV_yes (by rw [HP.out.2.1]; exact ht16) HP.out.1)).mono ?_
              clear KO
              rintro e w2 ⟨rfl, KO⟩
              obtain ⟨d0, d1, d2, d3⟩ := KO.o.cells
              go_wp2_with fail
              refine (KO.load (m := 2 * j + 1) (HP.out.2.2.cas t x ob) (by have := HJ.out; omega) t ob 0 (errV_t (by rw [(casT_len s t x ob).trans HP.out.2.1]; exact ht16)) (by rw [loadV_t (by rw [(casT_len s t x ob).trans HP.out.2.1]; exact ht16)]; exact casT_yes (by rw [HP.out.2.1]; exact ht16) HP.out.1)).mono ?_
              rintro e w3 ⟨rfl, KO3⟩
              obtain ⟨e1, e2, e3⟩ := last_end (j := j + 1) (casT_yes (by rw [HP.out.2.1]; exact ht16) HP.out.1) ((casT_len s t x ob).trans HP.out.2.1) ((HP.out.2.2.cas t x ob)) (by omega)
              have HE : Hid ((loadT (casT s t x ob) t).xs.getD t 0 = ob ∧ (loadT (casT s t x ob) t).xs.length = 16 ∧ Cnt (loadT (casT s t x ob) t) (2 * (j + 1))) := ⟨e1, e2, e3⟩
              have hK3 := KO3.kn e3 HJ.out.2.2
              clear KO KO3 e1 e2 e3
              have tx : (ob != ob) = false := by simp
              go_wp2
              go_roundw
              case rel => exact ⟨j + 1, _, ob, by omega, by omega, by go_num, rfl, HE, hK3⟩
              case measure => simp [intOf]; omega
            · have txo : (x == oa) = false := by simpa using hxo
              have HXO : Hid (s.xs.getD t 0 ≠ oa) := by show ¬ _; rw [HP.out.1]; exact hxo
              clear hxo
              go_wp2_with fail
              refine (KO.cas HP.out.2.2 HJ.out.1 t oa ob 0 false (errV_t (by rw [HP.out.2.1]; exact ht16)) (casV_no (by rw [HP.out.2.1]; exact ht16) HXO.out)).mono ?_
              clear KO
              rintro e w2 ⟨rfl, KO⟩
              obtain ⟨d0, d1, d2, d3⟩ := KO.o.cells
              go_wp2_with fail
              refine (KO.load (m := 2 * j + 1) (HP.out.2.2.cas t oa ob) (by have := HJ.out; omega) t x 0 (errV_t (by rw [(casT_len s t oa ob).trans HP.out.2.1]; exact ht16)) (by rw [loadV_t (by rw [(casT_len s t oa ob).trans HP.out.2.1]; exact ht16)]; exact (casT_no (by rw [HP.out.2.1]; exact ht16) HXO.out).trans HP.out.1)).mono ?_
              rintro e w3 ⟨rfl, KO3⟩
              obtain ⟨e1, e2, e3⟩ := last_end (j := j + 1) ((casT_no (by rw [HP.out.2.1]; exact ht16) HXO.out).trans HP.out.1) ((casT_len s t oa ob).trans HP.out.2.1) ((HP.out.2.2.cas t oa ob)) (by omega)
              have HE : Hid ((loadT (casT s t oa ob) t).xs.getD t 0 = x ∧ (loadT (casT s t oa ob) t).xs.length = 16 ∧ Cnt (loadT (casT s t oa ob) t) (2 * (j + 1))) := ⟨e1, e2, e3⟩
              have hK3 := KO3.kn e3 HJ.out.2.2
              clear KO KO3 e1 e2 e3
              have tx : (x != x) = false := by simp
              go_wp2
              go_roundw
              case rel => exact ⟨j + 1, _, x, by omega, by omega, by go_num, rfl, HE, hK3⟩
              case measure => simp [intOf]; omega
          · have tne : (ad == (t : Int)) = false := by simpa using hat
            have HA : Hid (ad ≠ t) := hat
            clear hat
            go_wp2_with fail
            refine (KO.cas HP.out.2.2 HJ.out.1 ad oa ob (errV s ad) (casV s ad oa) rfl rfl).mono ?_
            clear KO
            rintro e w2 ⟨rfl, KO⟩
            generalize errV s ad = er
            generalize casV s ad oa = yes
            obtain ⟨d0, d1, d2, d3⟩ := KO.o.cells
            go_wp2_with fail
            refine (KO.load (m := 2 * j + 1) (HP.out.2.2.cas ad oa ob) (by have := HJ.out; omega) t x 0 (errV_t (by rw [(casT_len s ad oa ob).trans HP.out.2.1]; exact ht16)) (by rw [loadV_t (by rw [(casT_len s ad oa ob).trans HP.out.2.1]; exact ht16)]; exact (casT_ne HA.out).trans HP.out.1)).mono ?_
            rintro e w3 ⟨rfl, KO3⟩
            obtain ⟨e1, e2, e3⟩ := last_end (j := j + 1) ((casT_ne HA.out).trans HP.out.1) ((casT_len s ad oa ob).trans HP.out.2.1) ((HP.out.2.2.cas ad oa ob)) (by omega)
            have HE : Hid ((loadT (casT s ad oa ob) t).xs.getD t 0 = x ∧ (loadT (casT s ad oa ob) t).xs.length = 16 ∧ Cnt (loadT (casT s ad oa ob) t) (2 * (j + 1))) := ⟨e1, e2, e3⟩
            have hK3 := KO3.kn e3 HJ.out.2.2
            clear KO KO3 e1 e2 e3
            have tx : (x != x) = false := by simp
            go_wp2
            go_roundw
            case rel => exact ⟨j + 1, _, x, by omega, by omega, by go_num, rfl, HE, hK3⟩
            case measure => simp [intOf]; omega
        · have k3 : (kd == 3) = false := by simpa using h3
          by_cases h4 : kd = 4
          · subst h4
            clear k2 k3 h2 h3
            by_cases hat : ad = t
            · subst hat
              obtain ⟨y, hy⟩ : ∃ y, add64 x oa = y := ⟨_, rfl⟩
              have HY : Hid (add64 (s.xs.getD t 0) oa = y) := by show _ = _; rw [HP.out.1]; exact hy
              have HYY : Hid (IntKind.u64.wrap (x + oa) = y) := hy
              clear hy
              have txx : (x != x) = false := by simp
              go_wp2_with fail
              refine (KO.add HP.out.2.2 HJ.out.1 t oa x 0 (errV_t (by rw [HP.out.2.1]; exact ht16)) (by rw [loadV_t (by rw [HP.out.2.1]; exact ht16)]; exact HP.out.1)).mono ?_
              clear KO
              rintro e w2 ⟨rfl, KO⟩
              obtain ⟨d0, d1, d2, d3⟩ := KO.o.cells
              go_wp2_with fail
              rw [HYY.out]
              refine (KO.load (m := 2 * j + 1) (HP.out.2.2.add t oa) (by have := HJ.out; omega) t y 0 (errV_t (by rw [(addT_len s t oa).trans HP.out.2.1]; exact ht16)) (by rw [loadV_t (by rw [(addT_len s t oa).trans HP.out.2.1]; exact ht16)]; exact (addT_eq (by rw [HP.out.2.1]; exact ht16)).trans HY.out)).mono ?_
              rintro e w3 ⟨rfl, KO3⟩
              obtain ⟨e1, e2, e3⟩ := last_end (j := j + 1) ((addT_eq (by rw [HP.out.2.1]; exact ht16)).trans HY.out) ((addT_len s t oa).trans HP.out.2.1) ((HP.out.2.2.add t oa)) (by omega)
              have HE : Hid ((loadT (addT s t oa) t).xs.getD t 0 = y ∧ (loadT (addT s t oa) t).xs.length = 16 ∧ Cnt (loadT (addT s t oa) t) (2 * (j + 1))) := ⟨e1, e2, e3⟩
              have hK3 := KO3.kn e3 HJ.out.2.2
              clear KO KO3 e1 e2 e3
              have tx : (y != y) = false := by simp
              go_wp2
              go_roundw
              case rel => exact ⟨j + 1, _, y, by omega, by omega, by go_num, rfl, HE, hK3⟩
              case measure => simp [intOf]; omega
            · have tne : (ad == (t : Int)) = false := by simpa using hat
              have HA : Hid (ad ≠ t) := hat
              clear hat
              go_wp2_with fail
              refine (KO.add HP.out.2.2 HJ.out.1 ad oa (loadV s ad) (errV s ad) rfl rfl).mono ?_
              clear KO
              rintro e w2 ⟨rfl, KO⟩
              generalize errV s ad = er
              generalize loadV s ad = lv
              obtain ⟨d0, d1, d2, d3⟩ := KO.o.cells
              go_wp2_with fail
              refine (KO.load (m := 2 * j + 1) (HP.out.2.2.add ad oa) (by have := HJ.out; omega) t x 0 (errV_t (by rw [(addT_len s ad oa).trans HP.out.2.1]; exact ht16)) (by rw [loadV_t (by rw [(addT_len s ad oa).trans HP.out.2.1]; exact ht16)]; exact (addT_ne HA.out).trans HP.out.1)).mono ?_
              rintro e w3 ⟨rfl, KO3⟩
              obtain ⟨e1, e2, e3⟩ := last_end (j := j + 1) ((addT_ne HA.out).trans HP.out.1) ((addT_len s ad oa).trans HP.out.2.1) ((HP.out.2.2.add ad oa)) (by omega)
              have HE : Hid ((loadT (addT s ad oa) t).xs.getD t 0 = x ∧ (loadT (addT s ad oa) t).xs.length = 16 ∧ Cnt (loadT (addT s ad oa) t) (2 * (j + 1))) := ⟨e1, e2, e3⟩
              have hK3 := KO3.kn e3 HJ.out.2.2
              clear KO KO3 e1 e2 e3
              have tx : (x != x) = false := by simp
              go_wp2
              go_roundw
              case rel => exact ⟨j + 1, _, x, by omega, by omega, by go_num, rfl, HE, hK3⟩
              case measure => simp [intOf]; omega
          · have k4 : (kd == 4) = false := by simpa using h4
            clear h2 h3 h4
            go_wp2_with fail
            refine (KO.load (m := 2 * j) HP.out.2.2 (by have := HJ.out; omega) t x 0 (errV_t (by rw [HP.out.2.1]; exact ht16)) (by rw [loadV_t (by rw [HP.out.2.1]; exact ht16)]; exact HP.out.1)).mono ?_
            rintro e w3 ⟨rfl, KO3⟩
            obtain ⟨e1, e2, e3⟩ := last_end (j := j + 1) (HP.out.1) (HP.out.2.1) (HP.out.2.2) (by omega)
            have HE : Hid ((loadT s t).xs.getD t 0 = x ∧ (loadT s t).xs.length = 16 ∧ Cnt (loadT s t) (2 * (j + 1))) := ⟨e1, e2, e3⟩
            have hK3 := KO3.kn e3 HJ.out.2.2
            clear KO KO3 e1 e2 e3
            have tx : (x != x) = false := by simp
            go_wp2
            go_roundw
            case rel => exact ⟨j + 1, _, x, by omega, by omega, by go_num, rfl, HE, hK3⟩
            case measure => simp [intOf]; omega
    · have hd : j = n ∨ (j < n ∧ j = 80) := by omega
      rcases hd with rfl | ⟨hjn, rfl⟩
      all_goals
        go_wp2_with fail
        refine (known_yes _).mono ?_
        rintro e w' ⟨rfl, hw'⟩
        go_wp2
        go_ret
        exact ⟨rfl, K.bel.trans (hw'.mono K.bel.size)⟩
end Go.Proofs.Ytkfmfnjkaeajeaa
