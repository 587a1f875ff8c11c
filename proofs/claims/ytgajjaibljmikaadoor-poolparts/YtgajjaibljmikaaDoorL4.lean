/- That PoolParts returns true, for every script of calls; nothing that lay before is changed. Condition: the table of rules lies in its variable as the program's text lays it. -/
import Derived.Test.YtgajjaibljmikaaDoorL7
import Derived.Test.YtgajjaibljmikaaDoorQ3
import Derived.Test.YtgajjaibljmikaaDoorSc
import Derived.Deep.CutRange
namespace Go.Proofs.YtgajjaibljmikaaDoor
open Go.RowKit

theorem kF_nat {L : List Ds} (h : 1 ≤ L.length) (k o : Int) : ∃ f : Nat, f < L.length ∧ kF L k o = f := by
  unfold kF
  cases hfr : fr L with
  | nil => exact ⟨0, by omega, rfl⟩
  | cons i q =>
    have hm : i ∈ fr L := by rw [hfr]; exact List.mem_cons_self
    by_cases hz : tE L (i : Nat) k o = 0
    · exact ⟨i, (wh_mem.1 hm).1, if_pos hz⟩
    · exact ⟨0, by omega, if_neg hz⟩

set_option maxRecDepth 100000 in
set_option maxHeartbeats 8000000 in
theorem parts_true {n : Nat} {w : World} {q : Option Addr} {c : Nat} {l : List Cl} (hn : n ≤ maxLen) (hl : l.length = n) (hs : Script w q l) (hT : Tab w) :
    Calls Tryd.prog 4 #[.slice q n c] w fun v w' => v = .returned (.bool true) ∧ Below w.heap.size w w' := by
  have HT := hid hT
  have hm : n ≤ 9223372036854775807 := by unfold maxLen at hn; omega
  have HS := hid hs
  have HLn := hid hl
  clear hT hs hl hn
  go_enter Tryd.func4, Tryd.ntmps4
  go_wp2_with fail
  refine (Ow.new (n := 9) HT.out (Below.refl _ _) HT.out.pos (by decide) (by decide)).mono ?_
  rintro v w1 ⟨rfl, hO, -⟩
  have O1 := hid hO
  clear hO
  generalize w.heap.size + 1 = p at O1
  generalize w.heap.size = b at O1
  go_wp2
  go_loopw [5] (fun i wr => ∃ (s : Nat) (L : List Ds), s ≤ n ∧ s ≤ 60 ∧ i = .int .i64 (s : Nat) ∧ Ow w wr p b L ∧ Rt L ∧ L.length = 9) (fun i _ => n - (intOf i).toNat)
  case atStart => exact ⟨0, _, Nat.zero_le _, by omega, rfl, O1.out, Rt.zero 9, by simp⟩
  case round =>
    obtain ⟨s, L, hsn, hs60, rfl, hO, hRt, hL9⟩ := hrel
    have Os := hid hO
    have HRt := hid hRt
    have HLt := hid hL9
    clear hO hRt hL9
    by_cases hlt : s < n
    · by_cases h60 : s < 60
      · obtain ⟨B, off, rfl, hB, hcell⟩ := HS.out (by intro h; rw [← HLn.out, h] at hlt; simp at hlt)
        obtain ⟨c0, c1, c2, c3, c4⟩ := hcell s (by rw [HLn.out]; exact hlt)
        have up : ∀ j, wr.cell? ⟨B, j, none⟩ = w.cell? ⟨B, j, none⟩ := fun j => Os.out.bel.cell (p := ⟨B, j, none⟩) hB
        rw [← up] at c0 c1 c2 c3 c4
        clear up hcell
        generalize l.getD s noCl = cl at c0 c1 c2 c3 c4
        obtain ⟨kd, cf, ck, co, cy⟩ := cl
        dsimp only at c0 c1 c2 c3 c4
        have HCt := hid ((Os.out.alloc (.cells #[.int .i64 kd, .int .i64 cf, .int .i64 ck, .int .i64 co, .int .i64 cy] 32)).count 0 _ rfl)
        have HBx0 := hid (heap_alloc_new wr (.cells #[.int .i64 kd, .int .i64 cf, .int .i64 ck, .int .i64 co, .int .i64 cy] 32))
        have HZb : Hid (b < wr.heap.size) := hid Os.out.pool.lt.2
        have HW9 : Hid (cK L 0 ≤ 9) := hid (by have := wh_len (isK 0) L; rw [HLt.out] at this; exact this)
        go_wp2_with fail
        refine HCt.out.mono ?_
        rintro v w2 ⟨rfl, hO, hB2⟩
        have Ot := hid hO
        have HBx := hid (stay hB2 HBx0.out)
        clear hO hB2 HCt HBx0 c0 c1 c2 c3 c4
        obtain ⟨z, hz⟩ : ∃ z, wr.heap.size = z := ⟨_, rfl⟩
        rw [hz] at HBx HZb ⊢
        clear hz
        have b0 := cell_of (i := 0) HBx.out rfl
        have b1 := cell_of (i := 1) HBx.out rfl
        have b2 := cell_of (i := 2) HBx.out rfl
        have b3 := cell_of (i := 3) HBx.out rfl
        have b4 := cell_of (i := 4) HBx.out rfl
        go_upto_if 44 with fail
        go_cut [8, 9, 10, 11] from 26 to 147 (fun _ _ _ _ wx => ∃ K : List Ds, Ow w wx p b K ∧ Rt K ∧ K.length = 9 ∧ wx.heap[z]? = some (.cells #[.int .i64 kd, .int .i64 cf, .int .i64 ck, .int .i64 co, .int .i64 cy] 32 (0, 0)))
        case first =>
          by_cases hkd : kd = 0
          · subst hkd
            obtain ⟨e, he⟩ : ∃ e, kE L ck co = e := ⟨_, rfl⟩
            obtain ⟨f, hf9, hf⟩ := kF_nat (L := L) Os.out.pool.pos ck co
            have HTk := hid (Ot.out.take ck co f e _ hf he rfl)
            have HRk := hid (HRt.out.take ck co)
            have HLk : Hid ((kL L ck co).length = 9) := hid (by rw [kL_len]; exact HLt.out)
            have HFl : Hid (f < (kL L ck co).length) := hid (by rw [kL_len]; exact hf9)
            have HDone : Hid (e = 0 → (kL L ck co).getD f zd = ⟨ck, co, 0, 0⟩ ∧ cK (kL L ck co) 0 + 1 = cK L 0) := hid (fun h0 => by
              obtain ⟨i, _, hi, _, h1, h2⟩ := take_done (he.trans h0)
              obtain rfl : i = f := by have := hi.symm.trans hf; omega
              exact ⟨h1, h2⟩)
            have HNone : Hid (e = 12 → cK L 0 = 0) := hid (fun h0 => take_none_free (he.trans h0))
            clear he hf hf9
            generalize kL L ck co = K at HTk HRk HLk HFl HDone
            generalize cK L 0 = was at *
            go_wp2_with fail
            refine HTk.out.mono ?_
            rintro v w5 ⟨rfl, hO, hBt⟩
            have O5 := hid hO
            have HB5 := hid ((hBt.block z (lt_of_block HBx.out) (by have := HZb.out; omega)).trans HBx.out)
            clear hO hBt b0 b1 b2 b3 b4
            obtain ⟨d, hd⟩ : ∃ d, K.getD f zd = d := ⟨_, rfl⟩
            rw [hd] at HDone
            have HOf := hid (O5.out.of f HFl.out d hd)
            clear hd
            obtain ⟨dk, d_o, dr, de⟩ := d
            go_wp2_with fail
            refine HOf.out.mono ?_
            rintro v w6 ⟨rfl, hO, hB6⟩
            have bD := below_one w6 (.cells #[.int .i64 dk, .int .i64 d_o, .int .i64 dr, .int .i64 de] 40)
            have O6 := hid (hO.below bD)
            have HB6 := hid (stay bD (stay hB6 HB5.out))
            have hdd := heap_alloc_new w6 (.cells #[.int .i64 dk, .int .i64 d_o, .int .i64 dr, .int .i64 de] 40)
            obtain ⟨p0, p1, p2, p3, -, -, -, -⟩ := four hdd
            have b0 := cell_of (i := 0) HB6.out rfl
            have b2 := cell_of (i := 2) HB6.out rfl
            have b3 := cell_of (i := 3) HB6.out rfl
            clear hO hB6 bD hdd
            by_cases he0 : e = 0
            · subst he0
              obtain ⟨hd, hw⟩ := HDone.out rfl
              obtain ⟨rfl, rfl, rfl, rfl⟩ := Ds.mk.inj hd
              obtain ⟨c1, hc1⟩ : ∃ c1, cK K 0 = c1 := ⟨_, rfl⟩
              rw [hc1] at hw
              have HCt := hid (O6.out.count 0 c1 hc1)
              clear hc1 hd
              subst hw
              have hwas9 : c1 + 1 ≤ 9 := HW9.out
              go_wp2_with fail
              refine HCt.out.mono ?_
              rintro v w7 ⟨rfl, hO, hB7⟩
              have O7 := hid hO
              have HB7 := hid (stay hB7 HB6.out)
              clear hO hB7 b0 b2 b3 p0 p1 p2 p3
              go_wp2
              go_meet
              case rel => exact ⟨_, O7.out, HRk.out, HLk.out, HB7.out⟩
            · have he0' : (e == 0) = false := beq_eq_false_iff_ne.2 he0
              by_cases he12 : e = 12
              · subst he12
                have hw0 := HNone.out rfl
                subst hw0
                go_wp2
                go_meet
                case rel => exact ⟨_, O6.out, HRk.out, HLk.out, HB6.out⟩
              · have he12' : (e == 12) = false := beq_eq_false_iff_ne.2 he12
                go_wp2
                go_meet
                case rel => exact ⟨_, O6.out, HRk.out, HLk.out, HB6.out⟩
          · have hkd' : (kd == 0) = false := beq_eq_false_iff_ne.2 hkd
            go_wp2
            go_meet
            case rel => exact ⟨_, Ot.out, HRt.out, HLt.out, HBx.out⟩
        case rest =>
          obtain ⟨K2, hO, hRt, hLt, hbx⟩ := hcut
          clear Ot HRt HLt HBx b0 b1 b2 b3 b4
          have Ot := hid hO
          have HRt := hid hRt
          have HLt := hid hLt
          have HBx := hid hbx
          clear hO hRt hLt hbx
          obtain ⟨K, hK⟩ : ∃ K, K = K2 := ⟨_, rfl⟩
          rw [← hK] at Ot HRt HLt
          clear hK
          have b0 := cell_of (i := 0) HBx.out rfl
          have b1 := cell_of (i := 1) HBx.out rfl
          have b2 := cell_of (i := 2) HBx.out rfl
          have b3 := cell_of (i := 3) HBx.out rfl
          have b4 := cell_of (i := 4) HBx.out rfl
          go_upto_if 98 with fail
          go_cut [] from 26 to 147 (fun wx => ∃ K : List Ds, Ow w wx p b K ∧ Rt K ∧ K.length = 9 ∧ wx.heap[z]? = some (.cells #[.int .i64 kd, .int .i64 cf, .int .i64 ck, .int .i64 co, .int .i64 cy] 32 (0, 0)))
          case first =>
            by_cases hkd : kd = 1
            · subst hkd
              go_wp2_with fail
              refine (Ot.out.give cf _ _ rfl rfl).mono ?_
              rintro v w5 ⟨rfl, hO, hBt⟩
              have O5 := hid hO
              have HB5 := hid ((hBt.block z (lt_of_block HBx.out) (by have := HZb.out; omega)).trans HBx.out)
              clear hO hBt b0 b1 b2 b3 b4
              go_wp2
              go_meet
              case rel => exact ⟨_, O5.out, HRt.out.turn cf 0 0, by rw [tL_len]; exact HLt.out, HB5.out⟩
            · have hkd' : (kd == 1) = false := beq_eq_false_iff_ne.2 hkd
              go_wp2
              go_meet
              case rel => exact ⟨_, Ot.out, HRt.out, HLt.out, HBx.out⟩
          case rest =>
            obtain ⟨K2, hO, hRt, hLt, hbx⟩ := hcut
            clear Ot HRt HLt HBx b0 b1 b2 b3 b4
            have Ot := hid hO
            have HRt := hid hRt
            have HLt := hid hLt
            have HBx := hid hbx
            clear hO hRt hLt hbx
            obtain ⟨K, hK⟩ : ∃ K, K = K2 := ⟨_, rfl⟩
            rw [← hK] at Ot HRt HLt
            clear hK
            have b0 := cell_of (i := 0) HBx.out rfl
            have b1 := cell_of (i := 1) HBx.out rfl
            have b2 := cell_of (i := 2) HBx.out rfl
            have b3 := cell_of (i := 3) HBx.out rfl
            have b4 := cell_of (i := 4) HBx.out rfl
            go_upto_if 105 with fail
            go_cut [] from 26 to 147 (fun wx => ∃ K : List Ds, Ow w wx p b K ∧ Rt K ∧ K.length = 9 ∧ wx.heap[z]? = some (.cells #[.int .i64 kd, .int .i64 cf, .int .i64 ck, .int .i64 co, .int .i64 cy] 32 (0, 0)))
            case first =>
              by_cases hkd : kd = 2
              · subst hkd
                go_wp2_with fail
                refine (Ot.out.turn cf ck co _ _ rfl rfl).mono ?_
                rintro v w5 ⟨rfl, hO, hBt⟩
                have O5 := hid hO
                have HB5 := hid ((hBt.block z (lt_of_block HBx.out) (by have := HZb.out; omega)).trans HBx.out)
                clear hO hBt b0 b1 b2 b3 b4
                go_wp2
                go_meet
                case rel => exact ⟨_, O5.out, HRt.out.turn cf ck co, by rw [tL_len]; exact HLt.out, HB5.out⟩
              · have hkd' : (kd == 2) = false := beq_eq_false_iff_ne.2 hkd
                go_wp2
                go_meet
                case rel => exact ⟨_, Ot.out, HRt.out, HLt.out, HBx.out⟩
            case rest =>
              obtain ⟨K2, hO, hRt, hLt, hbx⟩ := hcut
              clear Ot HRt HLt HBx b0 b1 b2 b3 b4
              have Ot := hid hO
              have HRt := hid hRt
              have HLt := hid hLt
              have HBx := hid hbx
              clear hO hRt hLt hbx
              obtain ⟨K, hK⟩ : ∃ K, K = K2 := ⟨_, rfl⟩
              rw [← hK] at Ot HRt HLt
              clear hK
              have b0 := cell_of (i := 0) HBx.out rfl
              have b1 := cell_of (i := 1) HBx.out rfl
              have b2 := cell_of (i := 2) HBx.out rfl
              have b3 := cell_of (i := 3) HBx.out rfl
              have b4 := cell_of (i := 4) HBx.out rfl
              go_upto_if 116 with fail
              go_cut [] from 26 to 147 (fun wx => ∃ K : List Ds, Ow w wx p b K ∧ Rt K ∧ K.length = 9 ∧ wx.heap[z]? = some (.cells #[.int .i64 kd, .int .i64 cf, .int .i64 ck, .int .i64 co, .int .i64 cy] 32 (0, 0)))
              case first =>
                by_cases hkd : kd = 3
                · subst hkd
                  go_wp2_with fail
                  refine (Ot.out.ref cf cy _ _ rfl rfl).mono ?_
                  rintro v w5 ⟨rfl, hO, hBt⟩
                  have O5 := hid hO
                  have HB5 := hid ((hBt.block z (lt_of_block HBx.out) (by have := HZb.out; omega)).trans HBx.out)
                  clear hO hBt b0 b1 b2 b3 b4
                  go_wp2
                  go_meet
                  case rel => exact ⟨_, O5.out, HRt.out.ref cf cy, by rw [gL_len]; exact HLt.out, HB5.out⟩
                · have hkd' : (kd == 3) = false := beq_eq_false_iff_ne.2 hkd
                  go_wp2
                  go_meet
                  case rel => exact ⟨_, Ot.out, HRt.out, HLt.out, HBx.out⟩
              case rest =>
                obtain ⟨K2, hO, hRt, hLt, hbx⟩ := hcut
                clear Ot HRt HLt HBx b0 b1 b2 b3 b4
                have Ot := hid hO
                have HRt := hid hRt
                have HLt := hid hLt
                have HBx := hid hbx
                clear hO hRt hLt hbx
                obtain ⟨K, hK⟩ : ∃ K, K = K2 := ⟨_, rfl⟩
                rw [← hK] at Ot HRt HLt
                clear hK
                go_wp2
                go_loopw [12, 13] (fun a i wr => ∃ j : Nat, j ≤ 6 ∧ i = .int .i64 (j : Nat) ∧ a = .int .i64 (sumC (·.k) K j : Nat) ∧ Ow w wr p b K) (fun _ i _ => 6 - (intOf i).toNat)
                case atStart => exact ⟨0, by omega, rfl, by rw [sumC_zero]; rfl, Ot.out⟩
                case round =>
                  obtain ⟨j, hj, rfl, rfl, hO⟩ := hrel
                  have Oj := hid hO
                  clear hO
                  by_cases hj6 : j < 6
                  · have hle := sumC_le (·.k) K (j + 1)
                    have hss := sumC_succ (·.k) K j
                    rw [HLt.out] at hle
                    rw [← cK_count] at hss
                    obtain ⟨A, hA⟩ : ∃ A, sumC (·.k) K (j + 1) = A := ⟨_, rfl⟩
                    rw [hA] at hle hss
                    have HA := hid hA
                    generalize sumC (·.k) K j = A0 at *
                    obtain ⟨cc, hcc⟩ : ∃ cc, cK K (j : Nat) = cc := ⟨_, rfl⟩
                    rw [hcc] at hss
                    have HC := hid (Oj.out.count (j : Nat) cc hcc)
                    clear hA hcc
                    subst hss
                    go_wp2_with fail
                    refine HC.out.mono ?_
                    rintro v w4 ⟨rfl, hO, -⟩
                    have O4 := hid hO
                    clear hO
                    go_wp2
                    go_roundw
                    case rel => exact ⟨j + 1, by omega, by go_num, by rw [HA.out]; go_num, O4.out⟩
                    case measure => simp [intOf]; omega
                  · obtain rfl : j = 6 := by omega
                    have hk9 : ((sumC (·.k) K 6 : Nat) : Int) = 9 := by rw [HRt.out.kinds, HLt.out]; rfl
                    rw [hk9, show (((6 : Nat)) : Int) = 6 from rfl]
                    clear hk9
                    go_wp2
                    go_loopw [14, 15] (fun a i wr => ∃ j : Nat, j ≤ 17 ∧ i = .int .i64 (j : Nat) ∧ a = .int .i64 (sumC (·.o) K j : Nat) ∧ Ow w wr p b K) (fun _ i _ => 17 - (intOf i).toNat)
                    case atStart => exact ⟨0, by omega, rfl, by rw [sumC_zero]; rfl, Oj.out⟩
                    case round =>
                      obtain ⟨j, hj, rfl, rfl, hO⟩ := hrel
                      have Ok := hid hO
                      clear hO
                      by_cases hj17 : j < 17
                      · have hle := sumC_le (·.o) K (j + 1)
                        have hss := sumC_succ (·.o) K j
                        rw [HLt.out] at hle
                        rw [← oL_count] at hss
                        obtain ⟨A, hA⟩ : ∃ A, sumC (·.o) K (j + 1) = A := ⟨_, rfl⟩
                        rw [hA] at hle hss
                        have HA := hid hA
                        generalize sumC (·.o) K j = A0 at *
                        obtain ⟨X, hX⟩ : ∃ X, oL K (j : Nat) = X := ⟨_, rfl⟩
                        rw [hX] at hss
                        have HC := hid (Ok.out.owned (j : Nat) X hX)
                        clear hA hX
                        subst hss
                        go_wp2_with fail
                        refine HC.out.mono ?_
                        rintro v w4 ⟨u, rfl, hl, hO, -⟩
                        have O4 := hid hO
                        obtain ⟨_, lq, lc, rfl, _⟩ := hl
                        clear hO
                        go_wp2
                        go_roundw
                        case rel => exact ⟨j + 1, by omega, by go_num, by rw [HA.out]; go_num, O4.out⟩
                        case measure => simp [intOf]; omega
                      · obtain rfl : j = 17 := by omega
                        have ho9 : ((sumC (·.o) K 17 : Nat) : Int) = 9 := by rw [HRt.out.owners, HLt.out]; rfl
                        rw [ho9]
                        clear ho9
                        go_wp2
                        go_roundw
                        case rel => exact ⟨s + 1, K, by omega, by omega, by go_num, Ok.out, HRt.out, HLt.out⟩
                        case measure => simp [intOf]; omega
      · have h60' : ¬ ((s : Int) < 60) := by omega
        go_wp2_with fail
        refine (known_yes _ Os.out.tab).mono ?_
        rintro v w9 ⟨rfl, hB9⟩
        have O9 := hid (Os.out.below hB9)
        clear hB9
        go_wp2
        go_ret
        exact ⟨rfl, O9.out.bel⟩
    · have hlt' : ¬ ((s : Int) < n) := by omega
      go_wp2_with fail
      refine (known_yes _ Os.out.tab).mono ?_
      rintro v w9 ⟨rfl, hB9⟩
      have O9 := hid (Os.out.below hB9)
      clear hB9
      go_wp2
      go_ret
      exact ⟨rfl, O9.out.bel⟩
end Go.Proofs.YtgajjaibljmikaaDoor
