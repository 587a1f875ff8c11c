/- That PoolOwned returns true, for every script of calls and every owner; nothing that lay before is changed. Condition: the table of rules lies in its variable as the program's text lays it. -/
import Derived.Test.YtgajjaibljmikaaDoorL7
import Derived.Test.YtgajjaibljmikaaDoorQ3
import Derived.Test.YtgajjaibljmikaaDoorSc
import Derived.BigQuiet
namespace Go.Proofs.YtgajjaibljmikaaDoor
open Go.RowKit

set_option maxRecDepth 100000 in
set_option maxHeartbeats 4000000 in
theorem owned_true {n : Nat} {w : World} {q : Option Addr} {c : Nat} {l : List Cl} (hn : n ≤ maxLen) (hl : l.length = n) (hs : Script w q l) (y : Nat) (hy : y < 256) (hT : Tab w) :
    Calls Tryd.prog 8 #[.slice q n c, .int .u8 y] w fun v w' => v = .returned (.bool true) ∧ Below w.heap.size w w' := by
  have HT := hid hT
  have hm : n ≤ 9223372036854775807 := by unfold maxLen at hn; omega
  have HS := hid hs
  have HLn := hid hl
  clear hT hs hl hn
  go_enter Tryd.func8, Tryd.ntmps8
  go_wp2_with fail
  refine (Ow.new (n := 9) HT.out (Below.refl _ _) HT.out.pos (by decide) (by decide)).mono ?_
  rintro v w1 ⟨rfl, hO, -⟩
  have O1 := hid hO
  clear hO
  generalize w.heap.size + 1 = p at O1
  generalize w.heap.size = b at O1
  go_wp2
  go_loopw [8] (fun i wr => ∃ (s : Nat) (L : List Ds), s ≤ n ∧ s ≤ 60 ∧ i = .int .i64 (s : Nat) ∧ Ow w wr p b L ∧ Rt L) (fun i _ => n - (intOf i).toNat)
  case atStart => exact ⟨0, _, Nat.zero_le _, by omega, rfl, O1.out, Rt.zero 9⟩
  case round =>
    obtain ⟨s, L, hsn, hs60, rfl, hO, hRt⟩ := hrel
    have Os := hid hO
    have HRs := hid hRt
    clear hO hRt
    by_cases hlt : s < n
    · by_cases h60 : s < 60
      · obtain ⟨B, off, rfl, hB, hcell⟩ := HS.out (by intro h; rw [← HLn.out, h] at hlt; simp at hlt)
        obtain ⟨c0, c1, c2, c3, c4⟩ := hcell s (by rw [HLn.out]; exact hlt)
        have kp : ∀ j, (w.cell? ⟨B, j, none⟩) = (w.cell? ⟨B, j, none⟩) := fun _ => rfl
        have up : ∀ j, wr.cell? ⟨B, j, none⟩ = w.cell? ⟨B, j, none⟩ := fun j => Os.out.bel.cell (p := ⟨B, j, none⟩) hB
        rw [← up] at c0 c1 c2 c3 c4
        clear kp up hcell
        generalize l.getD s noCl = cl at c0 c1 c2 c3 c4
        obtain ⟨kd, cf, ck, co, cy⟩ := cl
        dsimp only at c0 c1 c2 c3 c4
        by_cases hkd : kd = 0
        · subst hkd
          have hS0 : wr.drew.cell? ⟨B, off + s * 5 + 2, none⟩ = some (.int .i64 ck) ∧ wr.drew.cell? ⟨B, off + s * 5 + 3, none⟩ = some (.int .i64 co) := ⟨c2, c3⟩
          have HTk : Hid (∀ W : World, Ow w W p b L → W.cell? ⟨B, off + s * 5 + 2, none⟩ = some (.int .i64 ck) ∧ W.cell? ⟨B, off + s * 5 + 3, none⟩ = some (.int .i64 co) → Calls Tryd.prog 12 #[.pointer (some ⟨p, 0, none⟩), .int .i64 ck, .int .i64 co] W fun x w' => x = .returned (.tuple #[.int .i64 (kF L ck co), .int .i64 (kE L ck co)]) ∧ (w'.cell? ⟨B, off + s * 5 + 2, none⟩ = some (.int .i64 ck) ∧ w'.cell? ⟨B, off + s * 5 + 3, none⟩ = some (.int .i64 co)) ∧ Hid (Ow w w' p b (kL L ck co))) := by
            intro W hW hc
            refine (hW.take ck co _ _ _ rfl rfl rfl).mono ?_
            rintro x w' ⟨a, hO, hB'⟩
            have up : ∀ j, w'.cell? ⟨B, j, none⟩ = W.cell? ⟨B, j, none⟩ := fun j => (hB'.below hW.bel.size hW.hb).cell (p := ⟨B, j, none⟩) hB
            exact ⟨a, ⟨(up _).trans hc.1, (up _).trans hc.2⟩, hO⟩
          have HOd := hid (Os.out.below (Below.refl _ _).drew)
          go_wp2_with fail
          go_region_held3 (fun w' => w'.cell? ⟨B, off + s * 5 + 2, none⟩ = some (.int .i64 ck) ∧ w'.cell? ⟨B, off + s * 5 + 3, none⟩ = some (.int .i64 co)) (first | with_reducible exact hS0 | with_reducible assumption)
            (first
              | (go_at_call 12; refine (HTk.out _ HOd.out hS0).mono ?_; rintro e3 w3 ⟨rfl, hS3, Ot⟩))
          clear hS0 hS3 HTk HOd c0 c1 c2 c3 c4
          have HRt := hid (HRs.out.take ck co)
          generalize kL L ck co = K at Ot HRt
          have HOw : Hid (∀ j, j < (oL K (1 + (y : Int) % 16)).length → (oL K (1 + (y : Int) % 16)).getD j 0 < K.length ∧ (K.getD ((oL K (1 + (y : Int) % 16)).getD j 0) zd).o = 1 + (y : Int) % 16 ∧ 3 ≤ (K.getD ((oL K (1 + (y : Int) % 16)).getD j 0) zd).k) := fun j hj => oL_at HRt.out (by omega) hj
          have HRise := hid (fun j => oL_rise (L := K) (o := 1 + (y : Int) % 16) (j := j))
          go_wp2_with fail
          refine (Ot.out.owned (1 + (y : Int) % 16) _ rfl).mono ?_
          rintro v w4 ⟨u, rfl, hl, hO, -⟩
          have O4 := hid hO
          have hlen : (oL K (1 + (y : Int) % 16)).length ≤ 65536 := hl.1
          have HLi := hid hl
          obtain ⟨_, lq, lc, rfl, _⟩ := hl
          clear hO
          generalize hX : oL K (1 + (y : Int) % 16) = X at *
          clear hX
          go_wp2
          go_loopw [10] (fun i wr => ∃ j : Nat, j ≤ X.length ∧ i = .int .i64 (j : Nat) ∧ Ow w wr p b K ∧ Below w4.heap.size w4 wr) (fun i _ => X.length - (intOf i).toNat)
          case atStart => exact ⟨0, Nat.zero_le _, rfl, O4.out, Below.refl _ _⟩
          case round =>
            obtain ⟨j, hj, rfl, hO, hB⟩ := hrel
            have Oj := hid hO
            have HBj := hid hB
            by_cases hjx : j < X.length
            · obtain ⟨_, lq', lc', he, hcells⟩ := HLi.out.below hB
              obtain ⟨e1, e2⟩ : lq' = lq ∧ lc' = lc := by
                have := Value.slice.inj he
                exact ⟨this.1.symm, this.2.2.symm⟩
              subst e1 e2
              obtain ⟨lb, lo, rfl, hlb, hcell⟩ := hcells (by intro h; rw [h] at hjx; simp at hjx)
              clear he hO hB
              obtain ⟨x, hx⟩ : ∃ x, X.getD j 0 = x := ⟨_, rfl⟩
              obtain ⟨hxl, hxo, hxk⟩ := HOw.out j hjx
              have c0 := hcell j hjx
              rw [hx] at hxl hxo hxk c0
              obtain ⟨⟨dk, d_o, dr, de⟩, hd⟩ : ∃ d, K.getD x zd = d := ⟨_, rfl⟩
              have hdo : d_o = 1 + (y : Int) % 16 := by rw [hd] at hxo; exact hxo
              have h3k : 3 ≤ dk := by rw [hd] at hxk; exact hxk
              have hdk : decide (dk < 3) = false := decide_eq_false (by omega)
              have HOf := hid (Oj.out.of x hxl ⟨dk, d_o, dr, de⟩ hd)
              have HCell := hid hcell
              subst hdo
              clear hxl hxo hxk hd hcell
              go_wp2_with fail
              refine HOf.out.mono ?_
              rintro v w5 ⟨rfl, hO, hB5⟩
              have O5 := hid (hO.alloc (.cells #[.int .i64 dk, .int .i64 (1 + (y : Int) % 16), .int .i64 dr, .int .i64 de] 40))
              have hB6 := bgo hB5 (below_one w5 (.cells #[.int .i64 dk, .int .i64 (1 + (y : Int) % 16), .int .i64 dr, .int .i64 de] 40))
              have HB6 := hid hB6
              obtain ⟨p0, p1, p2, p3, -, -, -, -⟩ := four (heap_alloc_new w5 (.cells #[.int .i64 dk, .int .i64 (1 + (y : Int) % 16), .int .i64 dr, .int .i64 de] 40))
              have c0' := (hB6.cell (p := ⟨lb, lo + j, none⟩) hlb).trans c0
              clear c0 hO hB5
              go_wp2_with fail
              by_cases hj0 : j = 0
              · subst hj0
                go_quiet (fail)
                go_wp2
                go_roundw
                case rel => exact ⟨0 + 1, by omega, by go_num, O5.out.below (below_drewN (Below.refl _ _) _), below_drewN (HBj.out.trans (HB6.out.mono HBj.out.size)) _⟩
                case measure => simp [intOf]; omega
              · obtain ⟨i, rfl⟩ : ∃ i, j = i + 1 := ⟨j - 1, by omega⟩
                have hi : i < X.length := by omega
                obtain ⟨x', hx'⟩ : ∃ x', X.getD i 0 = x' := ⟨_, rfl⟩
                have hlx := HRise.out i hjx
                rw [hx, hx'] at hlx
                have c9 := HCell.out i hi
                rw [hx'] at c9
                have c9' := (hB6.cell (p := ⟨lb, lo + i, none⟩) hlb).trans c9
                have hdx : decide (x ≤ x') = false := decide_eq_false (by omega)
                have hdi : decide ((x : Int) ≤ (x' : Int)) = false := decide_eq_false (by omega)
                clear c9 hx' hB6
                go_quiet (fail)
                go_wp2
                go_roundw
                case rel => exact ⟨(i + 1) + 1, by omega, by go_num, O5.out.below (below_drewN (Below.refl _ _) _), below_drewN (HBj.out.trans (HB6.out.mono HBj.out.size)) _⟩
                case measure => simp [intOf]; omega
            · obtain rfl : j = X.length := by omega
              go_wp2
              go_roundw
              case rel => exact ⟨s + 1, K, by omega, by omega, by go_num, Oj.out, HRt.out⟩
              case measure => simp [intOf]; omega

        · have hS0 : wr.drew.cell? ⟨B, off + s * 5 + 1, none⟩ = some (.int .i64 cf) ∧ wr.drew.cell? ⟨B, off + s * 5 + 2, none⟩ = some (.int .i64 ck) ∧ wr.drew.cell? ⟨B, off + s * 5 + 3, none⟩ = some (.int .i64 co) := ⟨c1, c2, c3⟩
          have HTk : Hid (∀ W : World, Ow w W p b L → W.cell? ⟨B, off + s * 5 + 1, none⟩ = some (.int .i64 cf) ∧ W.cell? ⟨B, off + s * 5 + 2, none⟩ = some (.int .i64 ck) ∧ W.cell? ⟨B, off + s * 5 + 3, none⟩ = some (.int .i64 co) → Calls Tryd.prog 16 #[.pointer (some ⟨p, 0, none⟩), .int .i64 cf, .int .i64 ck, .int .i64 co] W fun x w' => x = .returned (.int .i64 (tE L cf ck co)) ∧ (w'.cell? ⟨B, off + s * 5 + 1, none⟩ = some (.int .i64 cf) ∧ w'.cell? ⟨B, off + s * 5 + 2, none⟩ = some (.int .i64 ck) ∧ w'.cell? ⟨B, off + s * 5 + 3, none⟩ = some (.int .i64 co)) ∧ Hid (Ow w w' p b (tL L cf ck co))) := by
            intro W hW hc
            refine (hW.turn cf ck co _ _ rfl rfl).mono ?_
            rintro x w' ⟨a, hO, hB'⟩
            have up : ∀ j, w'.cell? ⟨B, j, none⟩ = W.cell? ⟨B, j, none⟩ := fun j => (hB'.below hW.bel.size hW.hb).cell (p := ⟨B, j, none⟩) hB
            exact ⟨a, ⟨(up _).trans hc.1, (up _).trans hc.2.1, (up _).trans hc.2.2⟩, hO⟩
          have HOd := hid (Os.out.below (Below.refl _ _).drew)
          go_wp2_with fail
          go_region_held3 (fun w' => w'.cell? ⟨B, off + s * 5 + 1, none⟩ = some (.int .i64 cf) ∧ w'.cell? ⟨B, off + s * 5 + 2, none⟩ = some (.int .i64 ck) ∧ w'.cell? ⟨B, off + s * 5 + 3, none⟩ = some (.int .i64 co)) (first | with_reducible exact hS0 | with_reducible assumption)
            (first
              | (go_at_call 16; refine (HTk.out _ HOd.out hS0).mono ?_; rintro e3 w3 ⟨rfl, hS3, Ot⟩))
          clear hS0 hS3 HTk HOd c0 c1 c2 c3 c4
          have HRt := hid (HRs.out.turn cf ck co)
          generalize tL L cf ck co = K at Ot HRt
          have HOw : Hid (∀ j, j < (oL K (1 + (y : Int) % 16)).length → (oL K (1 + (y : Int) % 16)).getD j 0 < K.length ∧ (K.getD ((oL K (1 + (y : Int) % 16)).getD j 0) zd).o = 1 + (y : Int) % 16 ∧ 3 ≤ (K.getD ((oL K (1 + (y : Int) % 16)).getD j 0) zd).k) := fun j hj => oL_at HRt.out (by omega) hj
          have HRise := hid (fun j => oL_rise (L := K) (o := 1 + (y : Int) % 16) (j := j))
          go_wp2_with fail
          refine (Ot.out.owned (1 + (y : Int) % 16) _ rfl).mono ?_
          rintro v w4 ⟨u, rfl, hl, hO, -⟩
          have O4 := hid hO
          have hlen : (oL K (1 + (y : Int) % 16)).length ≤ 65536 := hl.1
          have HLi := hid hl
          obtain ⟨_, lq, lc, rfl, _⟩ := hl
          clear hO
          generalize hX : oL K (1 + (y : Int) % 16) = X at *
          clear hX
          go_wp2
          go_loopw [10] (fun i wr => ∃ j : Nat, j ≤ X.length ∧ i = .int .i64 (j : Nat) ∧ Ow w wr p b K ∧ Below w4.heap.size w4 wr) (fun i _ => X.length - (intOf i).toNat)
          case atStart => exact ⟨0, Nat.zero_le _, rfl, O4.out, Below.refl _ _⟩
          case round =>
            obtain ⟨j, hj, rfl, hO, hB⟩ := hrel
            have Oj := hid hO
            have HBj := hid hB
            by_cases hjx : j < X.length
            · obtain ⟨_, lq', lc', he, hcells⟩ := HLi.out.below hB
              obtain ⟨e1, e2⟩ : lq' = lq ∧ lc' = lc := by
                have := Value.slice.inj he
                exact ⟨this.1.symm, this.2.2.symm⟩
              subst e1 e2
              obtain ⟨lb, lo, rfl, hlb, hcell⟩ := hcells (by intro h; rw [h] at hjx; simp at hjx)
              clear he hO hB
              obtain ⟨x, hx⟩ : ∃ x, X.getD j 0 = x := ⟨_, rfl⟩
              obtain ⟨hxl, hxo, hxk⟩ := HOw.out j hjx
              have c0 := hcell j hjx
              rw [hx] at hxl hxo hxk c0
              obtain ⟨⟨dk, d_o, dr, de⟩, hd⟩ : ∃ d, K.getD x zd = d := ⟨_, rfl⟩
              have hdo : d_o = 1 + (y : Int) % 16 := by rw [hd] at hxo; exact hxo
              have h3k : 3 ≤ dk := by rw [hd] at hxk; exact hxk
              have hdk : decide (dk < 3) = false := decide_eq_false (by omega)
              have HOf := hid (Oj.out.of x hxl ⟨dk, d_o, dr, de⟩ hd)
              have HCell := hid hcell
              subst hdo
              clear hxl hxo hxk hd hcell
              go_wp2_with fail
              refine HOf.out.mono ?_
              rintro v w5 ⟨rfl, hO, hB5⟩
              have O5 := hid (hO.alloc (.cells #[.int .i64 dk, .int .i64 (1 + (y : Int) % 16), .int .i64 dr, .int .i64 de] 40))
              have hB6 := bgo hB5 (below_one w5 (.cells #[.int .i64 dk, .int .i64 (1 + (y : Int) % 16), .int .i64 dr, .int .i64 de] 40))
              have HB6 := hid hB6
              obtain ⟨p0, p1, p2, p3, -, -, -, -⟩ := four (heap_alloc_new w5 (.cells #[.int .i64 dk, .int .i64 (1 + (y : Int) % 16), .int .i64 dr, .int .i64 de] 40))
              have c0' := (hB6.cell (p := ⟨lb, lo + j, none⟩) hlb).trans c0
              clear c0 hO hB5
              go_wp2_with fail
              by_cases hj0 : j = 0
              · subst hj0
                go_quiet (fail)
                go_wp2
                go_roundw
                case rel => exact ⟨0 + 1, by omega, by go_num, O5.out.below (below_drewN (Below.refl _ _) _), below_drewN (HBj.out.trans (HB6.out.mono HBj.out.size)) _⟩
                case measure => simp [intOf]; omega
              · obtain ⟨i, rfl⟩ : ∃ i, j = i + 1 := ⟨j - 1, by omega⟩
                have hi : i < X.length := by omega
                obtain ⟨x', hx'⟩ : ∃ x', X.getD i 0 = x' := ⟨_, rfl⟩
                have hlx := HRise.out i hjx
                rw [hx, hx'] at hlx
                have c9 := HCell.out i hi
                rw [hx'] at c9
                have c9' := (hB6.cell (p := ⟨lb, lo + i, none⟩) hlb).trans c9
                have hdx : decide (x ≤ x') = false := decide_eq_false (by omega)
                have hdi : decide ((x : Int) ≤ (x' : Int)) = false := decide_eq_false (by omega)
                clear c9 hx' hB6
                go_quiet (fail)
                go_wp2
                go_roundw
                case rel => exact ⟨(i + 1) + 1, by omega, by go_num, O5.out.below (below_drewN (Below.refl _ _) _), below_drewN (HBj.out.trans (HB6.out.mono HBj.out.size)) _⟩
                case measure => simp [intOf]; omega
            · obtain rfl : j = X.length := by omega
              go_wp2
              go_roundw
              case rel => exact ⟨s + 1, K, by omega, by omega, by go_num, Oj.out, HRt.out⟩
              case measure => simp [intOf]; omega

      · have h60' : ¬ ((s : Int) < 60) := by omega
        go_wp2_with fail
        refine (known_yes _ Os.out.tab).mono ?_
        rintro v w9 ⟨rfl, hB9⟩
        have O9 := hid (Os.out.below hB9)
        clear hB9
        go_wp2
        go_ret
        exact ⟨rfl, O9.out.bel⟩
    · have hlt' : ¬ ((s : Int) < n) := by omega
      go_wp2_with fail
      refine (known_yes _ Os.out.tab).mono ?_
      rintro v w9 ⟨rfl, hB9⟩
      have O9 := hid (Os.out.below hB9)
      clear hB9
      go_wp2
      go_ret
      exact ⟨rfl, O9.out.bel⟩
end Go.Proofs.YtgajjaibljmikaaDoor
