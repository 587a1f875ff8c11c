/- That EpochEnds returns true, for every script of calls; nothing that lay before is changed. No conditions. -/
import Derived.Test.YthiicngnhnglfaaL7
namespace Go.Proofs.Ythiicngnhnglfaa
open Go.RowKit

theorem retS_len (s : Ep) (f : Int) : (retS s f).P.length = s.P.length := by unfold retS; split <;> rfl
theorem getD_set {P : List (Option Nat)} {i l : Nat} {x : Option Nat} : (P.set i x).getD l none = if i = l ∧ i < P.length then x else P.getD l none := by
  simp only [List.getD, List.getElem?_set]
  by_cases h : i = l
  · subst h
    by_cases h2 : i < P.length
    · simp [h2]
    · simp [h2]
  · simp [h]
/-- Behind an Unpin the CPU is not pinned; those that were not pinned stay so. -/
theorem unS_at (s : Ep) (j : Nat) (hj : j < s.P.length) : (unS s j).P.getD j none = none := by
  unfold unS unE
  have hc : isC s (j : Int) := ⟨by omega, by omega⟩
  rw [if_pos hc]
  by_cases hx : (pinOf s (j : Int)).isSome = true
  · rw [if_pos hx, if_pos rfl]
    show (s.P.set ((j : Int)).toNat none).getD j none = none
    rw [Int.toNat_natCast, getD_set, if_pos ⟨rfl, hj⟩]
  · rw [if_neg hx, if_neg (by decide)]
    simpa [pinOf] using hx
theorem unS_none (s : Ep) (f : Int) (l : Nat) (h : s.P.getD l none = none) : (unS s f).P.getD l none = none := by
  unfold unS
  split
  · show (s.P.set f.toNat none).getD l none = none
    rw [getD_set]
    split
    · rfl
    · exact h
  · exact h
theorem adv_none {s : Ep} (h : ∀ l, l < s.P.length → s.P.getD l none = none) : advT s = true := adv_yes fun k hk => by rw [h k hk]; rfl
theorem adv_none_S {s : Ep} (h : ∀ l, l < s.P.length → s.P.getD l none = none) : advS s = ⟨s.n + 1, s.P, s.L⟩ := by unfold advS; rw [adv_none h, if_pos rfl]
/-- Behind two Advances all that waits is freed. -/
theorem ends_free {B : Nat} {s : Ep} (k : Ok B s) : frL ⟨s.n + 1 + 1, s.P, s.L⟩ = waL s := by
  show tl (((s.n + 1 + 1 : Nat) : Int) - 2) s.L = _
  rw [show ((s.n + 1 + 1 : Nat) : Int) - 2 = (s.n : Int) by omega, waL_tl k]
theorem ends_stay {B : Nat} {s : Ep} (k : Ok B s) : frS ⟨s.n + 1 + 1, s.P, s.L⟩ = ⟨s.n + 1 + 1, s.P, []⟩ := by
  show (⟨s.n + 1 + 1, s.P, lv (((s.n + 1 + 1 : Nat) : Int) - 2) s.L⟩ : Ep) = _
  rw [show ((s.n + 1 + 1 : Nat) : Int) - 2 = (s.n : Int) by omega]
  have : lv (s.n : Int) s.L = [] := by
    unfold lv
    rw [List.filter_eq_nil_iff]
    intro p hp
    have := k.since p hp
    simpa using this
  rw [this]
theorem Lies.bt {p b m : Nat} {w w' : World} {v : Value} {xs : List Nat} (h : Lies w v xs) (ha : ∀ g, v.ownBlock = some g → g ≠ p ∧ g ≠ b ∧ g ≠ m) (k : Bt p b m w w') : Lies w' v xs := by
  obtain ⟨hV, q, c, rfl, hc⟩ := h
  refine ⟨hV, q, c, rfl, fun hne => ?_⟩
  obtain ⟨g, off, rfl, h1, h2⟩ := hc hne
  obtain ⟨k1, k2, k3⟩ := ha g rfl
  refine ⟨g, off, rfl, Nat.lt_of_lt_of_le h1 k.size, fun i hi => ?_⟩
  rw [← h2 i hi]
  simp [World.cell?, k.block g h1 k1 k2 k3]
theorem Ow.waiting2 {w0 w : World} {p b m B : Nat} {s : Ep} (h : Ow w0 w p b m B s) (hB : B ≤ 1000000) :
    Calls Try.prog 24 #[.pointer (some ⟨p, 0, none⟩)] w fun e w' => ∃ v, e = .returned v ∧ Lies w' v (waL s) ∧ (∀ g, v.ownBlock = some g → g ≠ p ∧ g ≠ b ∧ g ≠ m) ∧ Ow w0 w' p b m B s ∧ Below w.heap.size w w' := by
  have hl := h.ep.lt
  refine (waiting_at h.ep h.ok hB).mono fun x w' ⟨v, a, r, b⟩ => ⟨v, a, Lies.of_owns r (Nat.le_trans (waL_len h.ok) hB), fun g hg => ?_, h.below b, b⟩
  have := (r.lt g hg).1
  exact ⟨by omega, by omega, by omega⟩

set_option maxRecDepth 100000 in
set_option maxHeartbeats 8000000 in
theorem ends_true {n : Nat} {w : World} {q : Option Addr} {c : Nat} {l : List Cl} (hn : n ≤ maxLen) (hl : l.length = n) (hs : Script w q l) :
    Calls Try.prog 5 #[.slice q n c] w fun v w' => v = .returned (.bool true) ∧ Below w.heap.size w w' := by
  have hm : n ≤ 9223372036854775807 := by unfold maxLen at hn; omega
  have HS := hid hs
  have HLn := hid hl
  clear hs hl hn
  go_enter Try.func5, Try.ntmps5
  go_wp2_with fail
  refine (Ow.new (w0 := w) 4 (Below.refl _ _) (by decide) (by decide)).mono ?_
  rintro v w1 ⟨rfl, hO, -⟩
  have O1 := hid hO
  clear hO
  generalize w.heap.size + 1 + 1 = p at O1
  generalize w.heap.size + 1 = m at O1
  generalize w.heap.size = b at O1
  go_wp2
  go_loopw [5] (fun i wr => ∃ (k : Nat) (s : Ep), k ≤ n ∧ k ≤ 120 ∧ i = .int .i64 (k : Nat) ∧ Ow w wr p b m k s ∧ s.P.length = 4) (fun i _ => n - (intOf i).toNat)
  case atStart => exact ⟨0, _, Nat.zero_le _, by omega, rfl, O1.out, by simp [ep0]⟩
  case round =>
    obtain ⟨k, s, hkn, hk120, rfl, hO, hL4⟩ := hrel
    have Os := hid hO
    have HL4 := hid hL4
    clear hO hL4
    by_cases hlt : k < n
    · by_cases h120 : k < 120
      · obtain ⟨B, off, rfl, hB, hcell⟩ := HS.out (by intro h; rw [← HLn.out, h] at hlt; simp at hlt)
        obtain ⟨-, c0, c1, c2⟩ := hcell k (by rw [HLn.out]; exact hlt)
        have up : ∀ j, wr.cell? ⟨B, j, none⟩ = w.cell? ⟨B, j, none⟩ := fun j => Os.out.bel.cell (p := ⟨B, j, none⟩) hB
        rw [← up] at c0 c1 c2
        clear up hcell
        generalize l.getD k noCl = cl at c0 c1 c2
        obtain ⟨kd, cc, cf⟩ := cl
        dsimp only at c0 c1 c2
        have Ot := hid (Os.out.alloc (.cells #[.int .i64 kd, .int .i64 cc, .int .i64 cf] 31))
        have HZ : Hid ((wr.alloc (.cells #[.int .i64 kd, .int .i64 cc, .int .i64 cf] 31)).heap[wr.heap.size]? = some (zC ⟨kd, cc, cf⟩)) := heap_alloc_new wr _
        clear Os
        have Os := Ot
        have b0 := cell_of (i := 0) HZ.out rfl
        have b1 := cell_of (i := 1) HZ.out rfl
        have b2 := cell_of (i := 2) HZ.out rfl
        by_cases hkd0 : kd = 0
        · subst hkd0
          go_wp2_with fail
          refine (Ot.out.pin _ _ _ rfl rfl).mono ?_
          rintro v w5 ⟨rfl, hO, -⟩
          have O5 := hid hO
          clear hO b0 b1 b2
          go_wp2
          go_roundw
          case rel => exact ⟨k + 1, _, by omega, by omega, by go_num, O5.out.mono (by omega), (pinS_len _ _).trans HL4.out⟩
          case measure => simp [intOf]; omega
        · have hkd0' : (kd == 0) = false := beq_eq_false_iff_ne.2 hkd0
          by_cases hkd1 : kd = 1
          · subst hkd1
            go_wp2_with fail
            refine (Ot.out.unpin _ _ _ rfl rfl).mono ?_
            rintro v w5 ⟨rfl, hO, -⟩
            have O5 := hid hO
            clear hO b0 b1 b2
            go_wp2
            go_roundw
            case rel => exact ⟨k + 1, _, by omega, by omega, by go_num, O5.out.mono (by omega), (unS_len _ _).trans HL4.out⟩
            case measure => simp [intOf]; omega
          · have hkd1' : (kd == 1) = false := beq_eq_false_iff_ne.2 hkd1
            by_cases hkd2 : kd = 2
            · subst hkd2
              go_wp2_with fail
              refine (Ot.out.retire (by omega) (bits .and .i64 cf 63) _ _ (by rw [i64_and63]; omega) rfl rfl).mono ?_
              rintro v w5 ⟨rfl, hO, -⟩
              have O5 := hid hO
              clear hO b0 b1 b2
              go_wp2
              go_roundw
              case rel => exact ⟨k + 1, _, by omega, by omega, by go_num, O5.out, (retS_len _ _).trans HL4.out⟩
              case measure => simp [intOf]; omega
            · have hkd2' : (kd == 2) = false := beq_eq_false_iff_ne.2 hkd2
              by_cases hkd3 : kd = 3
              · subst hkd3
                go_wp2_with fail
                refine (Ot.out.adv (by omega) _ _ rfl rfl).mono ?_
                rintro v w5 ⟨rfl, hO, -⟩
                have O5 := hid hO
                clear hO b0 b1 b2
                go_wp2
                go_roundw
                case rel => exact ⟨k + 1, _, by omega, by omega, by go_num, O5.out, (advS_len _).trans HL4.out⟩
                case measure => simp [intOf]; omega
              · have hkd3' : (kd == 3) = false := beq_eq_false_iff_ne.2 hkd3
                go_wp2_with fail
                go_roundw
                case rel => exact ⟨k + 1, _, by omega, by omega, by go_num, Os.out.mono (by omega), HL4.out⟩
                case measure => simp [intOf]; omega
      · have h120' : ¬ ((k : Int) < 120) := by omega
        go_wp2_with fail
        go_loopw [7] (fun i wx => ∃ (j : Nat) (s2 : Ep), j ≤ 4 ∧ i = .int .i64 (j : Nat) ∧ Ow w wx p b m k s2 ∧ s2.P.length = 4 ∧ ∀ l, l < j → s2.P.getD l none = none) (fun i _ => 4 - (intOf i).toNat)
        case atStart => exact ⟨0, s, by omega, rfl, Os.out, HL4.out, fun l hl => by omega⟩
        case round =>
          obtain ⟨j, s2, hj, rfl, hO, hL, hN⟩ := hrel
          have Oj := hid hO
          have HLj := hid hL
          have HNj := hid hN
          clear hO hL hN
          by_cases hj4 : j < 4
          · go_wp2_with fail
            refine (Oj.out.unpin (j : Nat) _ _ rfl rfl).mono ?_
            rintro v w5 ⟨rfl, hO, -⟩
            have O5 := hid hO
            clear hO
            have HN2 : Hid (∀ l, l < j + 1 → (unS s2 j).P.getD l none = none) := by
              intro l hl
              by_cases e : l = j
              · rw [e]; exact unS_at s2 j (by rw [HLj.out]; exact hj4)
              · exact unS_none s2 j l (HNj.out l (by omega))
            go_wp2
            go_roundw
            case rel => exact ⟨j + 1, _, by omega, by go_num, O5.out, (unS_len _ _).trans HLj.out, HN2.out⟩
            case measure => simp [intOf]; omega
          · obtain rfl : j = 4 := by omega
            rw [show (((4 : Nat)) : Int) = 4 from rfl]
            have hN : ∀ l, l < s2.P.length → s2.P.getD l none = none := by rw [HLj.out]; exact HNj.out
            have HT1 := hid (adv_none hN)
            have HS1 := hid (adv_none_S hN)
            have HT2 : Hid (advT ⟨s2.n + 1, s2.P, s2.L⟩ = true) := adv_none (s := ⟨s2.n + 1, s2.P, s2.L⟩) hN
            have HS2 : Hid (advS ⟨s2.n + 1, s2.P, s2.L⟩ = ⟨s2.n + 1 + 1, s2.P, s2.L⟩) := adv_none_S (s := ⟨s2.n + 1, s2.P, s2.L⟩) hN
            have HF := hid (ends_free Oj.out.ok)
            have HY := hid (ends_stay Oj.out.ok)
            have HF2 : Hid (frL ⟨s2.n + 1 + 1, s2.P, []⟩ = []) := rfl
            clear hN
            go_wp2_with fail
            refine (Oj.out.waiting2 (by omega)).mono ?_
            rintro v wa ⟨u, rfl, hl, ha, hO, -⟩
            have Oa := hid hO
            have HLa := hid hl
            have HAp := hid ha
            clear hO hl ha
            go_wp2_with fail
            refine (Oa.out.adv (by omega) _ _ HT1.out HS1.out).mono ?_
            rintro v wb ⟨rfl, hO, hBt⟩
            have Ob := hid hO
            have HLb := hid (HLa.out.bt HAp.out hBt)
            clear hO hBt
            go_wp2_with fail
            refine (Ob.out.adv (by omega) _ _ HT2.out HS2.out).mono ?_
            rintro v wc ⟨rfl, hO, hBt⟩
            have Oc := hid hO
            have HLc := hid (HLb.out.bt HAp.out hBt)
            clear hO hBt
            go_wp2_with fail
            refine (Oc.out.free (by omega) _ _ HF.out HY.out).mono ?_
            rintro v wd ⟨u2, rfl, hl, hO, hBt⟩
            have Od := hid hO
            have HLd := hid (HLc.out.bt HAp.out hBt)
            have HLe := hid hl
            clear hO hBt hl
            go_wp2_with fail
            refine (same_any HLe.out HLd.out).mono ?_
            rintro v we ⟨rfl, hB⟩
            have Oe := hid (Od.out.below hB)
            clear hB
            go_wp2_with fail
            refine (Oe.out.waiting (by omega) [] rfl).mono ?_
            rintro v wf ⟨u3, rfl, hl, hO, -⟩
            have Of := hid hO
            obtain ⟨-, q3, c3, rfl, -⟩ := hl
            clear hO
            go_wp2_with fail
            refine (Of.out.free (by omega) [] _ HF2.out rfl).mono ?_
            rintro v wg ⟨u4, rfl, hl, hO, -⟩
            have Og := hid hO
            obtain ⟨-, q4, c4, rfl, -⟩ := hl
            clear hO
            go_wp2_with fail
            refine (known_yes _).mono ?_
            rintro v w9 ⟨rfl, hB9⟩
            have O9 := hid (Og.out.below hB9)
            clear hB9
            go_wp2
            go_ret
            exact ⟨rfl, O9.out.bel⟩
    · have hlt' : ¬ ((k : Int) < n) := by omega
      go_wp2_with fail
      go_loopw [7] (fun i wx => ∃ (j : Nat) (s2 : Ep), j ≤ 4 ∧ i = .int .i64 (j : Nat) ∧ Ow w wx p b m k s2 ∧ s2.P.length = 4 ∧ ∀ l, l < j → s2.P.getD l none = none) (fun i _ => 4 - (intOf i).toNat)
      case atStart => exact ⟨0, s, by omega, rfl, Os.out, HL4.out, fun l hl => by omega⟩
      case round =>
        obtain ⟨j, s2, hj, rfl, hO, hL, hN⟩ := hrel
        have Oj := hid hO
        have HLj := hid hL
        have HNj := hid hN
        clear hO hL hN
        by_cases hj4 : j < 4
        · go_wp2_with fail
          refine (Oj.out.unpin (j : Nat) _ _ rfl rfl).mono ?_
          rintro v w5 ⟨rfl, hO, -⟩
          have O5 := hid hO
          clear hO
          have HN2 : Hid (∀ l, l < j + 1 → (unS s2 j).P.getD l none = none) := by
            intro l hl
            by_cases e : l = j
            · rw [e]; exact unS_at s2 j (by rw [HLj.out]; exact hj4)
            · exact unS_none s2 j l (HNj.out l (by omega))
          go_wp2
          go_roundw
          case rel => exact ⟨j + 1, _, by omega, by go_num, O5.out, (unS_len _ _).trans HLj.out, HN2.out⟩
          case measure => simp [intOf]; omega
        · obtain rfl : j = 4 := by omega
          rw [show (((4 : Nat)) : Int) = 4 from rfl]
          have hN : ∀ l, l < s2.P.length → s2.P.getD l none = none := by rw [HLj.out]; exact HNj.out
          have HT1 := hid (adv_none hN)
          have HS1 := hid (adv_none_S hN)
          have HT2 : Hid (advT ⟨s2.n + 1, s2.P, s2.L⟩ = true) := adv_none (s := ⟨s2.n + 1, s2.P, s2.L⟩) hN
          have HS2 : Hid (advS ⟨s2.n + 1, s2.P, s2.L⟩ = ⟨s2.n + 1 + 1, s2.P, s2.L⟩) := adv_none_S (s := ⟨s2.n + 1, s2.P, s2.L⟩) hN
          have HF := hid (ends_free Oj.out.ok)
          have HY := hid (ends_stay Oj.out.ok)
          have HF2 : Hid (frL ⟨s2.n + 1 + 1, s2.P, []⟩ = []) := rfl
          clear hN
          go_wp2_with fail
          refine (Oj.out.waiting2 (by omega)).mono ?_
          rintro v wa ⟨u, rfl, hl, ha, hO, -⟩
          have Oa := hid hO
          have HLa := hid hl
          have HAp := hid ha
          clear hO hl ha
          go_wp2_with fail
          refine (Oa.out.adv (by omega) _ _ HT1.out HS1.out).mono ?_
          rintro v wb ⟨rfl, hO, hBt⟩
          have Ob := hid hO
          have HLb := hid (HLa.out.bt HAp.out hBt)
          clear hO hBt
          go_wp2_with fail
          refine (Ob.out.adv (by omega) _ _ HT2.out HS2.out).mono ?_
          rintro v wc ⟨rfl, hO, hBt⟩
          have Oc := hid hO
          have HLc := hid (HLb.out.bt HAp.out hBt)
          clear hO hBt
          go_wp2_with fail
          refine (Oc.out.free (by omega) _ _ HF.out HY.out).mono ?_
          rintro v wd ⟨u2, rfl, hl, hO, hBt⟩
          have Od := hid hO
          have HLd := hid (HLc.out.bt HAp.out hBt)
          have HLe := hid hl
          clear hO hBt hl
          go_wp2_with fail
          refine (same_any HLe.out HLd.out).mono ?_
          rintro v we ⟨rfl, hB⟩
          have Oe := hid (Od.out.below hB)
          clear hB
          go_wp2_with fail
          refine (Oe.out.waiting (by omega) [] rfl).mono ?_
          rintro v wf ⟨u3, rfl, hl, hO, -⟩
          have Of := hid hO
          obtain ⟨-, q3, c3, rfl, -⟩ := hl
          clear hO
          go_wp2_with fail
          refine (Of.out.free (by omega) [] _ HF2.out rfl).mono ?_
          rintro v wg ⟨u4, rfl, hl, hO, -⟩
          have Og := hid hO
          obtain ⟨-, q4, c4, rfl, -⟩ := hl
          clear hO
          go_wp2_with fail
          refine (known_yes _).mono ?_
          rintro v w9 ⟨rfl, hB9⟩
          have O9 := hid (Og.out.below hB9)
          clear hB9
          go_wp2
          go_ret
          exact ⟨rfl, O9.out.bel⟩
end Go.Proofs.Ythiicngnhnglfaa
