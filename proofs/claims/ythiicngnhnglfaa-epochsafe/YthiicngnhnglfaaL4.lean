/- That EpochSafe returns true, for every script of calls; nothing that lay before is changed. No conditions. -/
import Derived.Test.YthiicngnhnglfaaY1
namespace Go.Proofs.Ythiicngnhnglfaa
open Go.RowKit

theorem info35 : (Try.prog.info? 35).map (fun i => (i.zero, i.size, i.bytes)) = some (some (.slice none 0 0), 1, 24) := by kernel_rfl
theorem make64 (W : World) : (Instr.makeSlice 45 (.int .i64 64) (.int .i64 64)).run Try.prog W = .ok (.slice (some ⟨W.heap.size, 0, none⟩) 64 64) (W.alloc (.cells ⟨List.replicate 64 (.slice none 0 0)⟩ 35)) := by
  obtain ⟨i, hi, hzz⟩ := Option.map_eq_some_iff.1 info35
  simp only [Prod.mk.injEq] at hzz
  obtain ⟨hz, hs, hb⟩ := hzz
  have hr := run_make (P := Try.prog) W 45 35 i _ Try.underlying45 hi hz .i64 .i64 64 64 (by omega) (Int.le_refl _) (by rw [hb]; omega) (by omega)
  rw [hs, show madeCells (Value.slice none 0 0).cells (Int.toNat 64 * 1) = ⟨List.replicate 64 (.slice none 0 0)⟩ by kernel_rfl] at hr
  exact hr
theorem make4 (W : World) : (Instr.makeSlice 35 (.int .i64 4) (.int .i64 4)).run Try.prog W = .ok (.slice (some ⟨W.heap.size, 0, none⟩) 4 4) (W.alloc (.cells ⟨sc (fun _ => 0)⟩ 3)) := by
  obtain ⟨i, hi, hzz⟩ := Option.map_eq_some_iff.1 info3
  simp only [Prod.mk.injEq] at hzz
  obtain ⟨hz, hs, hb⟩ := hzz
  have hr := run_make (P := Try.prog) W 35 3 i _ Try.underlying35 hi hz .i64 .i64 4 4 (by omega) (Int.le_refl _) (by rw [hb]; omega) (by omega)
  rw [hs, show madeCells (Value.int IntKind.i64 0).cells (Int.toNat 4 * 1) = ⟨sc (fun _ => 0)⟩ by kernel_rfl] at hr
  exact hr
theorem SW.start {w0 w : World} {p b m : Nat} {s : Ep} (h : Ow w0 w p b m 0 s) : SW w0 ((w.alloc (.cells ⟨List.replicate 64 (.slice none 0 0)⟩ 35)).alloc (.cells ⟨sc (fun _ => 0)⟩ 3)) p b m (w.heap.size + 1) w.heap.size 0 s (fun _ => 0) (fun _ => none) := by
  obtain ⟨a, c⟩ := two_new w (.cells ⟨List.replicate 64 (.slice none 0 0)⟩ 35) (.cells ⟨sc (fun _ => 0)⟩ 3)
  refine ⟨(h.alloc _).alloc _, c, ⟨_, a, List.length_replicate, fun f hf => ?_⟩, by have := h.bel.size; omega, h.bel.size⟩
  show (List.replicate 64 (Value.slice none 0 0))[f]? = some (.slice none 0 0)
  rw [List.getElem?_replicate, if_pos hf]
theorem Ow.free2 {w0 w : World} {p b m B : Nat} {s : Ep} (h : Ow w0 w p b m B s) (hB : B ≤ 1000000) :
    Calls Try.prog 19 #[.pointer (some ⟨p, 0, none⟩)] w fun e w' => ∃ v, e = .returned v ∧ Lies w' v (frL s) ∧ (∀ g, v.ownBlock = some g → w.heap.size ≤ g) ∧ Ow w0 w' p b m B (frS s) ∧ Bt p b m w w' :=
  (free_at h.ep h.ok hB).mono fun _ _ ⟨v, a, r, b, c⟩ => ⟨v, a, Lies.of_owns r (Nat.le_trans (frL_len h.ok) hB), fun g hg => (r.lt g hg).1, h.step c b h.ok.fr, c⟩
theorem Lies.setCell {w : World} {v : Value} {xs : List Nat} (h : Lies w v xs) (g i : Nat) (u : Value) (ha : ∀ x, v.ownBlock = some x → x ≠ g) : Lies (w.setCell ⟨g, i, none⟩ u) v xs := by
  obtain ⟨hV, q, c, rfl, hc⟩ := h
  refine ⟨hV, q, c, rfl, fun hne => ?_⟩
  obtain ⟨b, off, rfl, h1, h2⟩ := hc hne
  have hk := Below.heap_setCell w ⟨g, i, none⟩ u b (ha b rfl)
  refine ⟨b, off, rfl, by simpa [World.setCell] using h1, fun x hx => ?_⟩
  rw [← h2 x hx]
  simp [World.cell?, hk]

set_option maxRecDepth 100000 in
set_option maxHeartbeats 8000000 in
theorem safe_true {n : Nat} {w : World} {q : Option Addr} {c : Nat} {l : List Cl} (hn : n ≤ maxLen) (hl : l.length = n) (hs : Script w q l) :
    Calls Try.prog 4 #[.slice q n c] w fun v w' => v = .returned (.bool true) ∧ Below w.heap.size w w' := by
  have hm : n ≤ 9223372036854775807 := by unfold maxLen at hn; omega
  have HS := hid hs
  have HLn := hid hl
  have hm64 := make64
  have hm4 := make4
  clear hs hl hn
  go_enter Try.func4, Try.ntmps4
  go_wp2_with fail
  refine (Ow.new (w0 := w) 4 (Below.refl _ _) (by decide) (by decide)).mono ?_
  rintro v w1 ⟨rfl, hO, -⟩
  have S1 := hid (SW.start hO)
  clear hO
  generalize w.heap.size + 1 + 1 = p at S1
  generalize w.heap.size + 1 = m at S1
  generalize w.heap.size = b at S1
  go_wp2_with fail
  obtain ⟨bn, hbn⟩ : ∃ bn, w1.heap.size = bn := ⟨_, rfl⟩
  obtain ⟨bs, hbs⟩ : ∃ bs, w1.heap.size + 1 = bs := ⟨_, rfl⟩
  rw [hbs, hbn] at S1
  (try rw [hbs])
  (try rw [hbn])
  clear hbs hbn hm64 hm4
  go_loopw [7] (fun i wr => ∃ (k : Nat) (s : Ep) (S : Nat → Nat) (Z : Zs), k ≤ n ∧ k ≤ 120 ∧ i = .int .i64 (k : Nat) ∧ SW w wr p b m bs bn k s S Z ∧ Sf k s S Z) (fun i _ => n - (intOf i).toNat)
  case atStart => exact ⟨0, _, _, _, Nat.zero_le _, by omega, rfl, S1.out, Sf.start⟩
  case round =>
    obtain ⟨k, s, S, Z, hkn, hk120, rfl, hSW, hSf⟩ := hrel
    have Os := hid hSW
    have HSf0 := hid hSf
    clear hSW hSf
    by_cases hlt : k < n
    · by_cases h120 : k < 120
      · obtain ⟨B, off, rfl, hB, hcell⟩ := HS.out (by intro h; rw [← HLn.out, h] at hlt; simp at hlt)
        obtain ⟨-, c0, c1, c2⟩ := hcell k (by rw [HLn.out]; exact hlt)
        have up : ∀ j, wr.cell? ⟨B, j, none⟩ = w.cell? ⟨B, j, none⟩ := fun j => Os.out.ow.bel.cell (p := ⟨B, j, none⟩) hB
        rw [← up] at c0 c1 c2
        clear up hcell
        generalize l.getD k noCl = cl at c0 c1 c2
        obtain ⟨kd, cc, cf⟩ := cl
        dsimp only at c0 c1 c2
        have St := hid (Os.out.below (below_one wr (.cells #[.int .i64 kd, .int .i64 cc, .int .i64 cf] 31)))
        have HZ : Hid ((wr.alloc (.cells #[.int .i64 kd, .int .i64 cc, .int .i64 cf] 31)).heap[wr.heap.size]? = some (zC ⟨kd, cc, cf⟩)) := heap_alloc_new wr _
        have HZp : Hid (wr.heap.size ≠ p ∧ wr.heap.size ≠ b ∧ wr.heap.size ≠ m) := apart_of St.out.ow.ep HZ.out (by decide) (by decide)
        have b0 := cell_of (i := 0) HZ.out rfl
        have b1 := cell_of (i := 1) HZ.out rfl
        have b2 := cell_of (i := 2) HZ.out rfl
        obtain ⟨j, hj, hj3⟩ : ∃ j : Nat, j < 4 ∧ bits .and .i64 cc 3 = (j : Int) := ⟨(cc % 4).toNat, by omega, by rw [i64_and3]; omega⟩
        obtain ⟨f, hf, hf63⟩ : ∃ f : Nat, f < 64 ∧ bits .and .i64 cf 63 = (f : Int) := ⟨(cf % 64).toNat, by omega, by rw [i64_and63]; omega⟩
        have hw : IntKind.i64.wrap ((k : Int) + 1) = (k : Int) + 1 := i64w (by omega) (by omega)
        go_upto_region 12 with fail
        obtain ⟨z, hz⟩ : ∃ z, wr.heap.size = z := ⟨_, rfl⟩
        rw [hz] at HZ HZp b0 b1 b2 ⊢
        clear hz c0 c1 c2
        by_cases hkd0 : kd = 0
        · subst hkd0
          by_cases he : pinE s j = 0
          · have HSf := hid (HSf0.out.pinOk hj he)
            go_wp2_with fail
            refine (St.out.ow.pin (j : Int) 0 _ he rfl).mono ?_
            rintro v w5 ⟨rfl, hO, hBt⟩
            have SW5 := hid (St.out.step hBt hO)
            have hz5 := (hBt.block z (lt_of_block HZ.out) HZp.out.1 HZp.out.2.1 HZp.out.2.2).trans HZ.out
            have hzs : z ≠ bs := fun e => by
              rw [e, SW5.out.since] at hz5
              simp only [Option.some.injEq, Obj.cells.injEq] at hz5
              exact absurd hz5.2.1 (by decide)
            have hz6 : (w5.setCell ⟨bs, j, none⟩ (.int .i64 ((k : Int) + 1))).heap[z]? = some (zC ⟨0, cc, cf⟩) := (Below.heap_setCell w5 ⟨bs, j, none⟩ _ z hzs).trans hz5
            have q1 := SW5.out.sinceAt hj
            have q2 := SW5.out.sinceFree j
            clear b0 b1 b2 hO hBt he hzs
            have d0 := cell_of (i := 0) hz6 rfl
            have e0 := cell_of (i := 0) hz5 rfl
            clear hz5 hz6
            go_wp2_with fail
            go_roundw
            case rel => exact ⟨k + 1, _, _, _, by omega, by omega, by go_num, SW5.out.setS (k + 1) |>.mono (by omega), HSf.out⟩
            case measure => simp [intOf]; omega
          · have hS : pinS s j = s := by unfold pinS; rw [if_neg he]
            have hne : (pinE s j == 0) = false := beq_eq_false_iff_ne.2 he
            have HCl := hid (St.out.ow.pin (j : Int) _ _ rfl hS)
            clear hS he
            generalize pinE s j = e at *
            go_wp2_with fail
            refine HCl.out.mono ?_
            rintro v w5 ⟨rfl, hO, hBt⟩
            have SW5 := hid (St.out.step hBt hO)
            have hz5 := (hBt.block z (lt_of_block HZ.out) HZp.out.1 HZp.out.2.1 HZp.out.2.2).trans HZ.out
            clear b0 b1 b2 hO hBt
            have e0 := cell_of (i := 0) hz5 rfl
            clear hz5
            go_wp2_with fail
            go_roundw
            case rel => exact ⟨k + 1, _, _, _, by omega, by omega, by go_num, SW5.out.mono (by omega), HSf0.out.mono⟩
            case measure => simp [intOf]; omega
        · have hkd0' : (kd == 0) = false := beq_eq_false_iff_ne.2 hkd0
          by_cases hkd1 : kd = 1
          · subst hkd1
            by_cases he : unE s j = 0
            · have HSf := hid (HSf0.out.unOk he)
              go_wp2_with fail
              refine (St.out.ow.unpin (j : Int) 0 _ he rfl).mono ?_
              rintro v w5 ⟨rfl, hO, hBt⟩
              have SW5 := hid (St.out.step hBt hO)
              have hz5 := (hBt.block z (lt_of_block HZ.out) HZp.out.1 HZp.out.2.1 HZp.out.2.2).trans HZ.out
              have hzs : z ≠ bs := fun e => by
                rw [e, SW5.out.since] at hz5
                simp only [Option.some.injEq, Obj.cells.injEq] at hz5
                exact absurd hz5.2.1 (by decide)
              have hz6 : (w5.setCell ⟨bs, j, none⟩ (.int .i64 (0))).heap[z]? = some (zC ⟨1, cc, cf⟩) := (Below.heap_setCell w5 ⟨bs, j, none⟩ _ z hzs).trans hz5
              have q1 := SW5.out.sinceAt hj
              have q2 := SW5.out.sinceFree j
              clear b0 b1 b2 hO hBt he hzs
              have d0 := cell_of (i := 0) hz6 rfl
              have e0 := cell_of (i := 0) hz5 rfl
              clear hz5 hz6
              go_wp2_with fail
              go_roundw
              case rel => exact ⟨k + 1, _, _, _, by omega, by omega, by go_num, SW5.out.setS (0) |>.mono (by omega), HSf.out⟩
              case measure => simp [intOf]; omega
            · have hS : unS s j = s := by unfold unS; rw [if_neg he]
              have hne : (unE s j == 0) = false := beq_eq_false_iff_ne.2 he
              have HCl := hid (St.out.ow.unpin (j : Int) _ _ rfl hS)
              clear hS he
              generalize unE s j = e at *
              go_wp2_with fail
              refine HCl.out.mono ?_
              rintro v w5 ⟨rfl, hO, hBt⟩
              have SW5 := hid (St.out.step hBt hO)
              have hz5 := (hBt.block z (lt_of_block HZ.out) HZp.out.1 HZp.out.2.1 HZp.out.2.2).trans HZ.out
              clear b0 b1 b2 hO hBt
              have e0 := cell_of (i := 0) hz5 rfl
              clear hz5
              go_wp2_with fail
              go_roundw
              case rel => exact ⟨k + 1, _, _, _, by omega, by omega, by go_num, SW5.out.mono (by omega), HSf0.out.mono⟩
              case measure => simp [intOf]; omega
          · have hkd1' : (kd == 1) = false := beq_eq_false_iff_ne.2 hkd1
            by_cases hkd2 : kd = 2
            · subst hkd2
              by_cases he : retE s f = 0
              · have HSf := hid (HSf0.out.retOk St.out.ow.ok hf he)
                go_wp2_with fail
                refine (St.out.ow.retire (by omega) (f : Int) 0 _ (by omega) he rfl).mono ?_
                rintro v w5 ⟨rfl, hO, hBt⟩
                have SW5 := hid (St.out.step hBt hO)
                have hz5 := (hBt.block z (lt_of_block HZ.out) HZp.out.1 HZp.out.2.1 HZp.out.2.2).trans HZ.out
                have s0 := SW5.out.sinceAt (c := 0) (by decide)
                have s1 := SW5.out.sinceAt (c := 1) (by decide)
                have s2 := SW5.out.sinceAt (c := 2) (by decide)
                have s3 := SW5.out.sinceAt (c := 3) (by decide)
                obtain ⟨⟨vf, q1⟩, q2⟩ := SW5.out.seenCell hf
                obtain ⟨⟨vg, q3⟩, q4⟩ := (SW5.out.below (below_one w5 (.cells ⟨sc S⟩ 3))).seenCell hf
                have hfi : (f : Int) < 64 := by omega
                have SW6 := hid (SW5.out.setNew f)
                have hSW6 := SW6.out.seen
                have hz6 : ((w5.alloc (.cells ⟨sc S⟩ 3)).setCell ⟨bn, f, none⟩ (.slice (some ⟨w5.heap.size, 0, none⟩) 4 4)).heap[z]? = some (zC ⟨2, cc, cf⟩) := by
                  obtain ⟨V, hV, _⟩ := SW5.out.seen
                  have hzs : z ≠ bn := fun e => by
                    rw [e, hV] at hz5
                    simp only [Option.some.injEq, Obj.cells.injEq] at hz5
                    exact absurd hz5.2.1 (by decide)
                  exact (Below.heap_setCell _ ⟨bn, f, none⟩ _ z hzs).trans (hkeep hz5 _)
                clear b0 b1 b2 hO hBt he hSW6
                have d0 := cell_of (i := 0) hz6 rfl
                have e0 := cell_of (i := 0) hz5 rfl
                have hsc : sc S = [.int .i64 (S 0 : Nat), .int .i64 (S 1 : Nat), .int .i64 (S 2 : Nat), .int .i64 (S 3 : Nat)] := rfl
                rw [hsc] at d0 SW6 q3 q4
                clear hz5 hz6 hsc
                generalize S 0 = x0 at *
                generalize S 1 = x1 at *
                generalize S 2 = x2 at *
                generalize S 3 = x3 at *
                go_wp2_with fail
                go_region
                all_goals
                  go_wp2
                  go_roundw
                  case rel => exact ⟨k + 1, _, _, _, by omega, by omega, by go_num, SW6.out.drew, HSf.out⟩
                  case measure => simp [intOf]; omega
              · have hS : retS s f = s := by unfold retS; rw [if_neg he]
                have hne : (retE s f == 0) = false := beq_eq_false_iff_ne.2 he
                have HCl := hid (St.out.ow.retire (by omega) (f : Int) _ _ (by omega) rfl hS)
                clear hS he
                generalize retE s f = e at *
                go_wp2_with fail
                refine HCl.out.mono ?_
                rintro v w5 ⟨rfl, hO, hBt⟩
                have SW5 := hid (St.out.step hBt hO)
                have hz5 := (hBt.block z (lt_of_block HZ.out) HZp.out.1 HZp.out.2.1 HZp.out.2.2).trans HZ.out
                clear b0 b1 b2 hO hBt
                have e0 := cell_of (i := 0) hz5 rfl
                clear hz5
                go_wp2_with fail
                go_roundw
                case rel => exact ⟨k + 1, _, _, _, by omega, by omega, by go_num, SW5.out, HSf0.out.mono⟩
                case measure => simp [intOf]; omega
            · have hkd2' : (kd == 2) = false := beq_eq_false_iff_ne.2 hkd2
              by_cases hkd3 : kd = 3
              · subst hkd3
                go_wp2_with fail
                refine (St.out.ow.adv (by omega) _ _ rfl rfl).mono ?_
                rintro v w5 ⟨rfl, hO, hBt⟩
                have SW5 := hid (St.out.step hBt hO)
                have hz5 := (hBt.block z (lt_of_block HZ.out) HZp.out.1 HZp.out.2.1 HZp.out.2.2).trans HZ.out
                clear b0 b1 b2 hO hBt
                have e0 := cell_of (i := 0) hz5 rfl
                clear hz5
                go_wp2_with fail
                go_roundw
                case rel => exact ⟨k + 1, _, _, _, by omega, by omega, by go_num, SW5.out, HSf0.out.adv⟩
                case measure => simp [intOf]; omega
              · have hkd3' : (kd == 3) = false := beq_eq_false_iff_ne.2 hkd3
                by_cases hkd4 : kd = 4
                · subst hkd4
                  have HUp := hid St.out.ow.ok.up
                  have HFr := hid (HSf0.out.freed HUp.out)
                  have HFa := hid (fun (d : Nat) (hd : d < (frL s).length) => HSf0.out.freed_at HUp.out hd)
                  go_wp2_with fail
                  refine (St.out.ow.free2 (by omega)).mono ?_
                  rintro v w5 ⟨u, rfl, hl, ha, hO, hBt⟩
                  have SW5 := hid (St.out.step hBt hO)
                  have HLi := hid hl
                  have hln : (frL s).length ≤ 1000000 := hl.1
                  have HAp : Hid (∀ x, u.ownBlock = some x → x ≠ bn) := fun x hx => by
                    obtain ⟨V, hV, _⟩ := St.out.seen
                    have h1 := ha x hx
                    have h2 := lt_of_block hV
                    omega
                  obtain ⟨-, lq, lc, rfl, -⟩ := hl
                  generalize frL s = l5 at *
                  generalize frS s = s5 at *
                  generalize hn5 : l5.length = n5 at *
                  have HN5 := hid hn5
                  clear b0 b1 b2 hO hBt ha hn5
                  go_wp2_with fail
                  go_loopw [12] (fun i wx => ∃ d : Nat, d ≤ n5 ∧ i = .int .i64 (d : Nat) ∧ SW w wx p b m bs bn k s5 S (zf Z l5 d) ∧ Lies wx (.slice lq n5 lc) l5) (fun i _ => n5 - (intOf i).toNat)
                  case atStart => exact ⟨0, Nat.zero_le _, rfl, by rw [zf_zero]; exact SW5.out, HLi.out⟩
                  case round =>
                    obtain ⟨d, hd, rfl, hSW, hLi⟩ := hrel
                    have Sd := hid hSW
                    have Ld := hid hLi
                    by_cases hdl : d < n5
                    · obtain ⟨hf64, z5, hz5, hgo⟩ := HFa.out d hdl
                      have HZs := hid (zf_succ Z l5 d (by rw [HN5.out]; exact hdl))
                      obtain ⟨-, q', c', hqe, hq⟩ := hLi
                      obtain ⟨rfl, -, rfl⟩ := Value.slice.inj hqe
                      obtain ⟨lb, lo, rfl, -, hcl⟩ := hq (by intro h; have := HN5.out; rw [h] at this; simp at this; omega)
                      have c0 := hcl d (by rw [HN5.out]; exact hdl)
                      obtain ⟨g5, e1, e2⟩ := hSW.seenAt hf64 hz5
                      have e4 := (hSW.seenCell hf64).2
                      have HS4 := hid (fun (c : Nat) (hc : c < 4) => hSW.sinceAt hc)
                      have HE2 := hid e2
                      have HGo := hid hgo
                      clear hSW hcl hq hqe hz5 e2 hgo
                      generalize l5.getD d 0 = x5 at *
                      have k1 : ¬ ((x5 : Int) < 0) := by omega
                      have k2 : (x5 : Int) ≤ 63 := by omega
                      have k3 : (x5 : Int) < 64 := by omega
                      rename World => wo
                      go_wp2_with fail
                      go_loopw [13] (fun i wx => ∃ c : Nat, c ≤ 4 ∧ i = .int .i64 (c : Nat) ∧ wx = wo) (fun i _ => 4 - (intOf i).toNat)
                      case atStart => exact ⟨0, by omega, rfl, rfl⟩
                      case round =>
                        obtain ⟨c, hc, rfl, hwx⟩ := hrel
                        subst hwx
                        by_cases hc4 : c < 4
                        · have f1 := HE2.out c hc4
                          have f2 := HS4.out c hc4
                          have hg := HGo.out c hc4
                          have hci : (c : Int) < 4 := by omega
                          generalize z5 c = y at *
                          generalize S c = y' at *
                          by_cases h0 : y = 0
                          · subst h0
                            go_wp2_with fail
                            go_roundw
                            case rel => exact ⟨c + 1, by omega, by go_num, (by first | rfl | trivial)⟩
                            case measure => simp [intOf]; omega
                          · have h1 : ((y' : Int) == (y : Int)) = false := beq_eq_false_iff_ne.2 (by have := hg h0; omega)
                            have h2 : (0 : Int) < (y : Int) := by omega
                            go_wp2_with fail
                            go_roundw
                            case rel => exact ⟨c + 1, by omega, by go_num, (by first | rfl | trivial)⟩
                            case measure => simp [intOf]; omega
                        · obtain rfl : c = 4 := by omega
                          rw [show (((4 : Nat)) : Int) = 4 from rfl]
                          go_wp2_with fail
                          go_roundw
                          case rel => exact ⟨d + 1, by omega, by go_num, by rw [HZs.out]; exact Sd.out.setNil _, Ld.out.setCell _ _ _ HAp.out⟩
                          case measure => simp [intOf]; omega
                    · obtain rfl : d = n5 := by omega
                      clear hSW hLi
                      go_wp2_with fail
                      go_roundw
                      case rel => exact ⟨k + 1, _, _, _, by omega, by omega, by go_num, Sd.out.mono (by omega), HFr.out⟩
                      case measure => simp [intOf]; omega
                · have hkd4' : (kd != 4) = true := by simpa using hkd4
                  have hkd4'' : (kd == 4) = false := beq_eq_false_iff_ne.2 hkd4
                  go_wp2_with fail

                  go_roundw
                  case rel => exact ⟨k + 1, _, _, _, by omega, by omega, by go_num, St.out.mono (by omega), HSf0.out.mono⟩
                  case measure => simp [intOf]; omega
      · have h120' : ¬ ((k : Int) < 120) := by omega
        go_wp2_with fail
        refine (known_yes _).mono ?_
        rintro v w9 ⟨rfl, hB9⟩
        have O9 := hid (Os.out.below hB9)
        clear hB9
        go_wp2
        go_ret
        exact ⟨rfl, O9.out.ow.bel⟩
    · have hlt' : ¬ ((k : Int) < n) := by omega
      go_wp2_with fail
      refine (known_yes _).mono ?_
      rintro v w9 ⟨rfl, hB9⟩
      have O9 := hid (Os.out.below hB9)
      clear hB9
      go_wp2
      go_ret
      exact ⟨rfl, O9.out.ow.bel⟩
end Go.Proofs.Ythiicngnhnglfaa
