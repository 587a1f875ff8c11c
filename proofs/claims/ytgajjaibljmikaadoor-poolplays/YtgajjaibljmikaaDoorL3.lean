/- That PoolPlays returns true, for every number of frames and every script of calls; nothing that lay before is changed. Condition: the table of rules lies in its variable as the program's text lays it. -/
import Derived.Test.YtgajjaibljmikaaDoorV2
import Derived.Test.YtgajjaibljmikaaDoorV3
import Derived.Deep.CutRange
import Derived.Deep.CutBlock
import Derived.BigQuiet
namespace Go.Proofs.YtgajjaibljmikaaDoor
open Go.RowKit

set_option maxRecDepth 100000 in
set_option maxHeartbeats 8000000 in
theorem plays_true (y : Int) {n : Nat} {w : World} {q : Option Addr} {c : Nat} {l : List Cl} (hn : n ≤ maxLen) (hl : l.length = n) (hs : Script w q l) (hT : Tab w) :
    Calls Tryd.prog 3 #[.int .i64 y, .slice q n c] w fun v w' => v = .returned (.bool true) ∧ Below w.heap.size w w' := by
  have HT := hid hT
  have hm : n ≤ 9223372036854775807 := by unfold maxLen at hn; omega
  have HS := hid hs
  have HLn := hid hl
  clear hT hs hl hn
  by_cases h300 : 300 < y ∧ y ≤ 4096
  · obtain ⟨h1, h2⟩ := h300
    go_enter Tryd.func3, Tryd.ntmps3
    go_wp2_with fail
    refine (known_yes _ HT.out).mono ?_
    rintro v w9 ⟨rfl, hB9⟩
    have O9 := hid hB9
    clear hB9
    go_wp2
    go_ret
    exact ⟨rfl, O9.out⟩
  · by_cases hin : 1 ≤ y ∧ y ≤ 4096
    · obtain ⟨N, rfl⟩ := Int.eq_ofNat_of_zero_le (show 0 ≤ y by omega)
      have hN1 : 1 ≤ N := by omega
      have hN3 : N ≤ 300 := by omega
      have h3 : ¬ (300 : Int) < N := by omega
      clear hin h300
      go_enter Tryd.func3, Tryd.ntmps3
      go_wp2_with fail
      refine (Ow.new (n := N) HT.out (Below.refl _ _) HT.out.pos hN1 (by omega)).mono ?_
      rintro v w1 ⟨rfl, hO, hB1⟩
      go_wp2_with fail
      refine (rnew_yes N w1 hN1 (by omega)).mono ?_
      rintro v w2 ⟨rfl, hR, hB2⟩
      have TW0 : Hid (Tw w w2 (w.heap.size + 1) w.heap.size (w1.heap.size + 1) w1.heap.size (List.replicate N zd) (List.replicate N zd)) := by
        have l1 := hO.pool.lt
        have hs1 := hB1.size
        exact ⟨hO.below hB2, hR, by omega, by omega, by omega, by omega, by omega⟩
      clear hO hB1 hR hB2
      generalize w1.heap.size + 1 = p' at TW0
      generalize w1.heap.size = b' at TW0
      go_wp2
      go_loopw [5, 9] (fun pv i wr => ∃ (s p b : Nat) (L : List Ds), s ≤ n ∧ s ≤ 60 ∧ pv = .pointer (some ⟨p, 0, none⟩) ∧ i = .int .i64 (s : Nat) ∧ Tw w wr p b p' b' L L ∧ L.length = N) (fun _ i _ => n - (intOf i).toNat)
      case atStart => exact ⟨0, _, _, _, Nat.zero_le _, by omega, rfl, rfl, TW0.out, by simp⟩
      case round =>
        obtain ⟨s, p, b, L, hsn, hs60, rfl, rfl, hTw, hLN⟩ := hrel
        have HTw := hid hTw
        have HNl := hid hLN
        clear hTw hLN
        by_cases hlt : s < n
        · by_cases h60 : s < 60
          · obtain ⟨B, off, rfl, hB, hcell⟩ := HS.out (by intro h; rw [← HLn.out, h] at hlt; simp at hlt)
            obtain ⟨c0, c1, c2, c3, c4⟩ := hcell s (by rw [HLn.out]; exact hlt)
            have up : ∀ j, wr.cell? ⟨B, j, none⟩ = w.cell? ⟨B, j, none⟩ := fun j => HTw.out.ow.bel.cell (p := ⟨B, j, none⟩) hB
            rw [← up] at c0 c1 c2 c3 c4
            clear up hcell
            generalize l.getD s noCl = cl at c0 c1 c2 c3 c4
            obtain ⟨kd, cf, ck, co, cy⟩ := cl
            dsimp only at c0 c1 c2 c3 c4
            have HZ0 := hid (HTw.out.box ⟨kd, cf, ck, co, cy⟩)
            obtain ⟨WX, hWX⟩ : ∃ WX, wr.alloc (.cells (clC ⟨kd, cf, ck, co, cy⟩) 32) = WX := ⟨_, rfl⟩
            obtain ⟨z, hz⟩ : ∃ z, wr.heap.size = z := ⟨_, rfl⟩
            have HZ : Hid (Tz w p b p' b' z ⟨kd, cf, ck, co, cy⟩ WX L L) := by rw [← hWX, ← hz]; exact HZ0
            have b0 := HZ.out.c0
            have b1 := HZ.out.c1
            have b2 := HZ.out.c2
            have b3 := HZ.out.c3
            have b4 := HZ.out.c4
            have d0 := HZ0.out.c0
            clear HZ0
            dsimp only [clC] at hWX b0 b1 b2 b3 b4 d0
            go_upto_block 2 with fail
            (try rw [hWX])
            (try rw [hz])
            clear hWX hz d0 c0 c1 c2 c3 c4
            go_cut [5, 11, 12, 13, 14, 15] from 46 to 224 (fun pv _ _ _ _ _ wx => ∃ (p b : Nat) (L : List Ds), pv = .pointer (some ⟨p, 0, none⟩) ∧ Tz w p b p' b' z ⟨kd, cf, ck, co, cy⟩ wx L L ∧ L.length = N)
            case first =>
              by_cases hk0 : kd = 0
              · subst hk0
                have HLn2 : Hid ((kL L ck co).length = N) := hid (by rw [kL_len]; exact HNl.out)
                have HT1 := hid (HZ.out.take ck co)
                clear b0 b1 b2 b3 b4
                have b2 := HZ.out.c2
                have b3 := HZ.out.c3
                go_wp2_with fail
                refine HT1.out.mono ?_
                rintro v w3 ⟨rfl, h3⟩
                have H3 := hid h3
                clear h3 b2 b3
                have b2 := H3.out.c2
                have b3 := H3.out.c3
                have HT2 := hid (H3.out.rtake ck co)
                generalize kF L ck co = fv at *
                generalize kE L ck co = ev at *
                generalize kL L ck co = L' at *
                go_wp2_with fail
                refine HT2.out.mono ?_
                rintro v w4 ⟨rfl, h4⟩
                have H4 := hid h4
                clear h4 b2 b3
                go_wp2
                go_meet
                case rel => exact ⟨_, _, _, rfl, H4.out, HLn2.out⟩
              · have hq0 : (kd == 0) = false := beq_eq_false_iff_ne.2 hk0
                by_cases hk1 : kd = 1
                · subst hk1
                  have HLn2 : Hid ((tL L cf 0 0).length = N) := hid (by rw [tL_len]; exact HNl.out)
                  clear b0 b1 b2 b3 b4
                  go_wp2_with fail
                  refine reg24_both HZ.out ?_
                  intro u107 u108 u109 u110 u111 u112 u113 u114 w3 h3
                  have H3 := hid h3
                  clear h3
                  go_wp2
                  go_meet
                  case rel => exact ⟨_, _, _, rfl, H3.out, HLn2.out⟩
                · have hq1 : (kd == 1) = false := beq_eq_false_iff_ne.2 hk1
                  by_cases hk2 : kd = 2
                  · subst hk2
                    have HLn2 : Hid ((tL L cf ck co).length = N) := hid (by rw [tL_len]; exact HNl.out)
                    clear b0 b1 b2 b3 b4
                    go_wp2_with fail
                    refine reg27_both HZ.out ?_
                    intro u118 u119 u120 u121 u122 u123 u124 u125 u126 u127 u128 u129 u130 u131 u132 u133 w3 h3
                    have H3 := hid h3
                    clear h3
                    go_wp2
                    go_meet
                    case rel => exact ⟨_, _, _, rfl, H3.out, HLn2.out⟩
                  · have hq2 : (kd == 2) = false := beq_eq_false_iff_ne.2 hk2
                    by_cases hk3 : kd = 3
                    · subst hk3
                      have HLn2 : Hid ((gL L cf cy).length = N) := hid (by rw [gL_len]; exact HNl.out)
                      clear b0 b1 b2 b3 b4
                      go_wp2_with fail
                      refine reg30_both HZ.out ?_
                      intro u137 u138 u139 u140 u141 u142 u143 u144 u145 u146 u147 u148 w3 h3
                      have H3 := hid h3
                      clear h3
                      go_wp2
                      go_meet
                      case rel => exact ⟨_, _, _, rfl, H3.out, HLn2.out⟩
                    · have hq3 : (kd == 3) = false := beq_eq_false_iff_ne.2 hk3
                      have HCp := hid HZ.out.copy
                      clear b0 b1 b2 b3 b4
                      go_wp2_with fail
                      refine HCp.out.mono ?_
                      rintro v w3 ⟨q, g, rfl, h3, hO, nq, ng⟩
                      have H3 := hid h3
                      have Oo := hid hO
                      clear h3 hO
                      go_wp2_with fail
                      refine (Oo.out.take 4 2 _ _ _ rfl rfl rfl).mono ?_
                      rintro v w4 ⟨rfl, hO, hB4⟩
                      have H4 := hid (H3.out.keep hB4 hO.tab hO.bel nq ng HZ.out.tw.n1 HZ.out.tw.n2 HZ.out.z1)
                      have Oo4 := hid hO
                      clear hO hB4
                      have b1 := H4.out.c1
                      go_wp2_with fail
                      refine (Oo4.out.give cf _ _ rfl rfl).mono ?_
                      rintro v w5 ⟨rfl, hO, hB5⟩
                      have H5 := hid (H4.out.keep hB5 hO.tab hO.bel nq ng HZ.out.tw.n1 HZ.out.tw.n2 HZ.out.z1)
                      clear hO hB5 b1
                      go_wp2
                      go_meet
                      case rel => exact ⟨_, _, _, rfl, H5.out, HNl.out⟩
            case rest =>
              obtain ⟨pr, br, Lr, rfl, hZ2, hL2⟩ := hcut
              clear HZ HNl b0 b1 b2 b3 b4 HTw
              have HZ := hid hZ2
              have HNl := hid hL2
              clear hZ2 hL2
              go_wp2
              go_loopw [16] (fun kv wr2 => ∃ m : Nat, m ≤ N + 2 ∧ kv = .int .i64 ((m : Int) - 1) ∧ Tz w pr br p' b' z ⟨kd, cf, ck, co, cy⟩ wr2 Lr Lr) (fun kv _ => N + 2 - (intOf kv + 1).toNat)
              case atStart => exact ⟨0, by omega, rfl, HZ.out⟩
              case round =>
                obtain ⟨m, hm2, rfl, hZk⟩ := hrel
                have Hk := hid hZk
                clear hZk
                by_cases hm0 : m = 0
                · subst hm0
                  rw [show ((0 : Nat) : Int) - 1 = -1 from rfl]
                  have HOf := hid (Hk.out.tw.ow.of_out (-1) (by rw [HNl.out]; omega))
                  go_wp2_with fail
                  refine HOf.out.mono ?_
                  rintro v w5 ⟨rfl, -, hB5⟩
                  have hB6 := bgo hB5 (below_one w5 (.cells #[.int .i64 0, .int .i64 0, .int .i64 0, .int .i64 0] 40))
                  have H6 := hid (Hk.out.below hB6)
                  obtain ⟨d0, d1, d2, d3, -, -, -, -⟩ := four (heap_alloc_new w5 (.cells #[.int .i64 0, .int .i64 0, .int .i64 0, .int .i64 0] 40))
                  clear hB5 hB6
                  go_wp2_with fail
                  go_quiet (fail)
                  go_wp2
                  go_roundw
                  case rel => exact ⟨0 + 1, by omega, by rfl, H6.out.below (below_drewN (Below.refl _ _) _)⟩
                  case measure => simp [intOf]
                · obtain ⟨i, rfl⟩ : ∃ i, m = i + 1 := ⟨m - 1, by omega⟩
                  have hik : (((i + 1 : Nat)) : Int) - 1 = (i : Int) := by omega
                  rw [hik]
                  clear hik
                  by_cases hiN : i < N
                  · obtain ⟨⟨dk, d_o, dr, de⟩, hd⟩ : ∃ d, Lr.getD i zd = d := ⟨_, rfl⟩
                    have HOf := hid (Hk.out.tw.ow.of i (by rw [HNl.out]; exact hiN) _ hd)
                    go_wp2_with fail
                    refine HOf.out.mono ?_
                    rintro v w5 ⟨rfl, -, hB5⟩
                    have hB6 := bgo hB5 (below_one w5 (.cells #[.int .i64 dk, .int .i64 d_o, .int .i64 dr, .int .i64 de] 40))
                    have H6 := hid (Hk.out.below hB6)
                    have hnew := heap_alloc_new w5 (.cells #[.int .i64 dk, .int .i64 d_o, .int .i64 dr, .int .i64 de] 40)
                    obtain ⟨V, hV⟩ : ∃ V, w5.alloc (.cells #[.int .i64 dk, .int .i64 d_o, .int .i64 dr, .int .i64 de] 40) = V := ⟨_, rfl⟩
                    obtain ⟨gd, hgd⟩ : ∃ gd, w5.heap.size = gd := ⟨_, rfl⟩
                    rw [hV] at H6 hnew
                    rw [hgd] at hnew
                    have hV2 : V = w5.alloc (.cells #[.int .i64 dk, .int .i64 d_o, .int .i64 dr, .int .i64 de] 40) := hV.symm
                    obtain ⟨d0, d1, d2, d3, -, -, -, -⟩ := four hnew
                    obtain ⟨cc, e0⟩ := H6.out.tw.rp.slice
                    obtain ⟨e1, e2, e3, e4⟩ := H6.out.tw.rp.cells i (by rw [HNl.out]; exact hiN)
                    rw [HNl.out] at e0
                    rw [hd] at e1 e2 e3 e4
                    dsimp only at e1 e2 e3 e4
                    have hup : ∀ W, Below V.heap.size V W → W.cell? ⟨gd, 0, none⟩ = some (.int .i64 dk) ∧ W.cell? ⟨gd, 1, none⟩ = some (.int .i64 d_o) ∧ W.cell? ⟨gd, 2, none⟩ = some (.int .i64 dr) ∧ W.cell? ⟨gd, 3, none⟩ = some (.int .i64 de) ∧ W.cell? ⟨p', 0, none⟩ = some (.slice (some ⟨b', 0, none⟩) N cc) ∧ W.cell? ⟨b', i * 4, none⟩ = some (.int .i64 dk) ∧ W.cell? ⟨b', i * 4 + 1, none⟩ = some (.int .i64 d_o) ∧ W.cell? ⟨b', i * 4 + 2, none⟩ = some (.int .i64 dr) ∧ W.cell? ⟨b', i * 4 + 3, none⟩ = some (.int .i64 de) := fun W hW =>
                      have k : ∀ (a : Addr) (v : Value), V.cell? a = some v → W.cell? a = some v := fun a v h => (hW.cell (World.block_lt_of_cell? V a h)).trans h
                      ⟨k _ _ d0, k _ _ d1, k _ _ d2, k _ _ d3, k _ _ e0, k _ _ e1, k _ _ e2, k _ _ e3, k _ _ e4⟩
                    have HUp := hid hup
                    have HPl : Hid (∀ W, Hid (Below V.heap.size V W) → Calls Tryd.prog 22 #[.agg #[.int .i64 dk, .int .i64 d_o, .int .i64 dr, .int .i64 de]] W fun v w' => v = .returned (.agg #[.int .i64 dk, .int .i64 d_o, .int .i64 dr, .int .i64 de]) ∧ (w'.cell? ⟨gd, 0, none⟩ = some (.int .i64 dk) ∧ w'.cell? ⟨gd, 1, none⟩ = some (.int .i64 d_o) ∧ w'.cell? ⟨gd, 2, none⟩ = some (.int .i64 dr) ∧ w'.cell? ⟨gd, 3, none⟩ = some (.int .i64 de) ∧ w'.cell? ⟨p', 0, none⟩ = some (.slice (some ⟨b', 0, none⟩) N cc) ∧ w'.cell? ⟨b', i * 4, none⟩ = some (.int .i64 dk) ∧ w'.cell? ⟨b', i * 4 + 1, none⟩ = some (.int .i64 d_o) ∧ w'.cell? ⟨b', i * 4 + 2, none⟩ = some (.int .i64 dr) ∧ w'.cell? ⟨b', i * 4 + 3, none⟩ = some (.int .i64 de)) ∧ Hid (Below V.heap.size V w')) :=
                      fun W h => (plain_at dk d_o dr de W).mono fun v w' ⟨a, hB⟩ => ⟨a, HUp.out _ (bgo h.out hB), bgo h.out hB⟩
                    have HBd : Hid (Below V.heap.size V V.drew) := (Below.refl _ _).drew
                    have hS0 := hup _ HBd.out
                    clear hB5 hB6 hnew hup e0 e1 e2 e3 e4 d0 d1 d2 d3 hV2 hd
                    have hiN2 : (i : Int) < (N : Int) := by omega
                    have hi0 : (0 : Int) ≤ (i : Int) := by omega
                    go_wp2_with fail
                    (try rw [hV])
                    (try rw [hgd])
                    clear hV hgd
                    refine reg36_in (T := fun W => Below V.heap.size V W) (fun _ _ _ _ _ h => h) hiN HBd.out hS0 (fun W hW => (HPl.out W hW).mono fun _ _ ⟨x, y, z⟩ => ⟨x, y, z.out⟩) ?_
                    intro u161 u162 u163 u164 u165 u166 u167 u168 u169 u170 u171 u172 u173 u174 u175 u176 u177 u178 u179 u180 u181 u182 u183 u184 u185 u186 u187 u188 u189 u190 u191 u192 w7 hB7
                    have HB7 := hid hB7
                    clear hS0 hB7
                    go_wp2
                    go_roundw
                    case rel => exact ⟨i + 1 + 1, by omega, by go_num, H6.out.below HB7.out⟩
                    case measure => simp [intOf]; omega
                  · by_cases hiN2 : i = N
                    · subst hiN2
                      have HOf := hid (Hk.out.tw.ow.of_out (i) (by rw [HNl.out]; omega))
                      go_wp2_with fail
                      refine HOf.out.mono ?_
                      rintro v w5 ⟨rfl, -, hB5⟩
                      have hB6 := bgo hB5 (below_one w5 (.cells #[.int .i64 0, .int .i64 0, .int .i64 0, .int .i64 0] 40))
                      have H6 := hid (Hk.out.below hB6)
                      obtain ⟨d0, d1, d2, d3, -, -, -, -⟩ := four (heap_alloc_new w5 (.cells #[.int .i64 0, .int .i64 0, .int .i64 0, .int .i64 0] 40))
                      clear hB5 hB6
                      go_wp2_with fail
                      go_quiet (fail)
                      go_wp2
                      go_roundw
                      case rel => exact ⟨i + 1 + 1, by omega, by go_num, H6.out.below (below_drewN (Below.refl _ _) _)⟩
                      case measure => simp [intOf]; omega
                    · obtain rfl : i = N + 1 := by omega
                      go_wp2_with fail
                      refine reg38_same Hk.out HNl.out ?_
                      intro u194 u195 u196 u197 u198 u199 u200 u201 u202 u203 u204 u205 u206 u207 u208 u209 u210 u211 u212 u213 u214 u215 u216 u217 u218 u219 u220 u221 u222 u223 w7 hB7
                      have HB7 := hid hB7
                      clear hB7
                      go_wp2
                      go_roundw
                      case rel => exact ⟨s + 1, _, _, _, by omega, by omega, rfl, by go_num, (Hk.out.below HB7.out).tw, HNl.out⟩
                      case measure => simp [intOf]; omega
          · have h60' : ¬ ((s : Int) < 60) := by omega
            go_wp2_with fail
            refine (known_yes _ HTw.out.ow.tab).mono ?_
            rintro v w9 ⟨rfl, hB9⟩
            have O9 := hid hB9
            clear hB9
            go_wp2
            go_ret
            exact ⟨rfl, (HTw.out.ow.bel.trans (O9.out.mono HTw.out.ow.bel.size))⟩
        · have hlt' : ¬ ((s : Int) < n) := by omega
          go_wp2_with fail
          refine (known_yes _ HTw.out.ow.tab).mono ?_
          rintro v w9 ⟨rfl, hB9⟩
          have O9 := hid hB9
          clear hB9
          go_wp2
          go_ret
          exact ⟨rfl, (HTw.out.ow.bel.trans (O9.out.mono HTw.out.ow.bel.size))⟩
    · have HIn := hid hin
      have hcase : (300 < y ∧ 4096 < y) ∨ (y ≤ 300 ∧ y < 1) := by omega
      clear h300 hin
      rcases hcase with ⟨h1, h2⟩ | ⟨h1, h2⟩
      all_goals
        go_enter Tryd.func3, Tryd.ntmps3
        go_wp2_with fail
        refine (new_no y w HIn.out).mono ?_
        rintro v w1 ⟨rfl, rfl⟩
        go_wp2_with fail
        refine (rnew_no y w1 HIn.out).mono ?_
        rintro v w2 ⟨rfl, hB2⟩
        have HB2 := hid hB2
        clear hB2
        go_wp2
        refine wp_loop_rounds 1 ?_
        rw [rounds_succ]
        by_cases hn0 : 0 < n
        · go_wp2_with fail
          refine (known_yes _ (HT.out.go HB2.out)).mono ?_
          rintro v w9 ⟨rfl, hB9⟩
          have O9 := hid (bgo HB2.out hB9)
          clear hB9
          go_wp2
          go_ret
          exact ⟨rfl, O9.out⟩
        · obtain rfl : n = 0 := by omega
          go_wp2_with fail
          refine (known_yes _ (HT.out.go HB2.out)).mono ?_
          rintro v w9 ⟨rfl, hB9⟩
          have O9 := hid (bgo HB2.out hB9)
          clear hB9
          go_wp2
          go_ret
          exact ⟨rfl, O9.out⟩
end Go.Proofs.YtgajjaibljmikaaDoor
