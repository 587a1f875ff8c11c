/- What a round's call tells and leaves on both sides. Conditions: the two sides are alike; the tables are trees; few calls have been counted. What NptPlays knows where it begins: both sides are alike, with one or two guests' roots. Of no law; no condition. -/
import Derived.Test.YtpfmmlbakbhklaaGreatDoorCL
import Derived.Test.YtpfmmlbakbhklaaGreatDoorBR
import Derived.Deep.RegionHeld3
import Derived.Laws.BitsLemmas
namespace Go.Proofs.YtpfmmlbakbhklaaGreatDoor
open Go.RowKit
theorem and_one (x : Int) : ∃ i : Nat, i < 2 ∧ bits .and .i64 x 1 = i := by
  refine ⟨(BitVec.ofInt 64 x).toNat % 2, by omega, ?_⟩
  have h : bits .and .i64 x 1 = IntKind.i64.wrap (((BitVec.ofInt 64 x) &&& (BitVec.ofInt 64 1)).toNat : Nat) := rfl
  rw [h, BitVec.toNat_and, show (BitVec.ofInt 64 1).toNat = 1 from rfl, Nat.and_one_is_mod, IntKind.wrap_i64]
  omega
section
variable {w0 w w' : World} {d : Pd} {k : Nat} {s : Sm} {L : Nat → Nat}
/-- The law's block: a guest's tables. -/
theorem Pw.cellX {s' : Sm} {L' : Nat → Nat} (h : Pw w0 d k w s L s' L') {i : Nat} (hi : i < 2) : w.cell? ⟨d.g, 2 + i, none⟩ = some (.pointer (d.X i)) ∧ w.cell? ⟨d.g, 6 + i, none⟩ = some (.pointer (some ⟨d.B i, 0, none⟩)) := by
  obtain rfl | rfl : i = 0 ∨ i = 1 := by omega
  · exact ⟨P.cell_of (i := 2) h.blk rfl, P.cell_of (i := 6) h.blk rfl⟩
  · exact ⟨P.cell_of (i := 3) h.blk rfl, P.cell_of (i := 7) h.blk rfl⟩
theorem cells5V {w : World} {g : Nat} {a b c d e : Value} {t : TypeId} (h : w.heap[g]? = some (.cells #[a, b, c, d, e] t (0, 0))) : w.cell? ⟨g, 0, none⟩ = some a ∧ w.cell? ⟨g, 1, none⟩ = some b ∧ w.cell? ⟨g, 2, none⟩ = some c ∧ w.cell? ⟨g, 3, none⟩ = some d ∧ w.cell? ⟨g, 4, none⟩ = some e :=
  ⟨P.cell_of h rfl, P.cell_of h rfl, P.cell_of h rfl, P.cell_of h rfl, P.cell_of h rfl⟩
theorem Pw.addr {s' : Sm} {L' : Nat → Nat} (h : Pw w0 d k w s L s' L') {i : Nat} (hi : i < 2) (hl : L i = 1 ∨ L i = 2) : ∃ a, d.X i = some ⟨a, 0, none⟩ := by
  rcases h.ts i hi with ⟨h1, -⟩ | ⟨-, a, h2, -⟩ | ⟨-, a, h2, -⟩
  · omega
  · exact ⟨a, h2⟩
  · exact ⟨a, h2⟩
set_option maxRecDepth 100000 in
set_option maxHeartbeats 2000000 in
theorem pdo_map (h : Pw w0 d k w s L s L) (hP : PI d s L) (hk : k + 400 ≤ bnd) (wh pg fr rt : Int) {i : Nat} (hi : i < 2) (hbw : bits .and .i64 wh 1 = i) (hl : L i = 1 ∨ L i = 2) :
    Calls Tryz.prog 11 #[.pointer (some ⟨d.g, 0, none⟩), .agg #[.int .i64 0, .int .i64 wh, .int .i64 pg, .int .i64 fr, .int .i64 rt]] w fun e w' => e = .returned (.bool true) ∧ ∃ s' L', Pw w0 d (k + 200) w' s' L' s' L' ∧ PI d s' L' ∧ Kq w w' ∧ ∀ j, L' j = 0 ↔ L j = 0 := by
  have HS : Hid (∀ W : World, W.heap[w.heap.size]? = some (.cells #[.int .i64 0, .int .i64 wh, .int .i64 pg, .int .i64 fr, .int .i64 rt] 27) → (W.cell? ⟨w.heap.size, 2, none⟩ = some (.int .i64 pg) ∧ W.cell? ⟨w.heap.size, 3, none⟩ = some (.int .i64 fr) ∧ W.cell? ⟨w.heap.size, 4, none⟩ = some (.int .i64 rt))) := fun W hW => ⟨(cells5V hW).2.2.1, (cells5V hW).2.2.2.1, (cells5V hW).2.2.2.2⟩
  obtain ⟨a, hx⟩ := h.addr hi hl
  have hB := below_alloc w (.cells #[.int .i64 0, .int .i64 wh, .int .i64 pg, .int .i64 fr, .int .i64 rt] 27)
  have hz := heap_alloc_new w (.cells #[.int .i64 0, .int .i64 wh, .int .i64 pg, .int .i64 fr, .int .i64 rt] 27)
  have h1 := h.below hB
  have KB := hid (Kq.of_below hB)
  obtain ⟨gx, gb⟩ := h1.cellX hi
  rw [hx] at gx
  have HZ := hid hz
  obtain ⟨z0, z1, z2, z3, z4⟩ := cells5V hz
  have hi2 : (i : Int) < 2 := by omega
  have hi0 : (0 : Int) ≤ (i : Int) := by omega
  have HPW := hid h1
  have HI := hid hi
  have HK := hid hk
  have HOa : Hid (∀ W, Hid (Pw w0 d k W s L s L ∧ W.heap[w.heap.size]? = some (.cells #[.int .i64 0, .int .i64 wh, .int .i64 pg, .int .i64 fr, .int .i64 rt] 27) ∧ Kq w W) → Calls Tryz.prog 21 #[.pointer (d.X i), .int .i64 pg, .int .i64 fr, .int .i64 rt] W fun e w' => e = .returned (.int .i64 (lE (L i) (putE s (d.R i) pg 0 ⟨true, rt, false, fr⟩))) ∧ (w'.cell? ⟨w.heap.size, 2, none⟩ = some (.int .i64 pg) ∧ w'.cell? ⟨w.heap.size, 3, none⟩ = some (.int .i64 fr) ∧ w'.cell? ⟨w.heap.size, 4, none⟩ = some (.int .i64 rt)) ∧ Hid (Pw w0 d (k + 100) w' (lS (L i) s (putT s (i + 1 : Nat) (d.R i) pg 0 ⟨true, rt, false, fr⟩)) L s L ∧ w'.heap[w.heap.size]? = some (.cells #[.int .i64 0, .int .i64 wh, .int .i64 pg, .int .i64 fr, .int .i64 rt] 27) ∧ Kq w w')) := fun W q => by
    refine (q.out.1.mapO (by have := HK.out; omega) hi (by omega) pg fr rt).mono ?_
    rintro e w' ⟨rfl, hW, hK⟩
    have hz := hK _ _ _ (by decide) (by decide) (by decide) (by decide) (by decide) (by decide) (by decide) q.out.2.1
    exact ⟨rfl, HS.out _ hz, hW, hz, q.out.2.2.trans hK⟩
  have HRb : Hid (∀ W, Hid (Pw w0 d (k + 100) W (lS (L i) s (putT s (i + 1 : Nat) (d.R i) pg 0 ⟨true, rt, false, fr⟩)) L s L ∧ W.heap[w.heap.size]? = some (.cells #[.int .i64 0, .int .i64 wh, .int .i64 pg, .int .i64 fr, .int .i64 rt] 27) ∧ Kq w W) → Calls Tryz.prog 41 #[.pointer (some ⟨d.B i, 0, none⟩), .int .i64 pg, .int .i64 fr, .int .i64 rt] W fun e w' => e = .returned (.int .i64 (lE (L i) (putE s (d.R i) pg 0 ⟨true, rt, false, fr⟩))) ∧ (w'.cell? ⟨w.heap.size, 2, none⟩ = some (.int .i64 pg) ∧ w'.cell? ⟨w.heap.size, 3, none⟩ = some (.int .i64 fr) ∧ w'.cell? ⟨w.heap.size, 4, none⟩ = some (.int .i64 rt)) ∧ Hid (Pw w0 d (k + 100 + 100) w' (lS (L i) s (putT s (i + 1 : Nat) (d.R i) pg 0 ⟨true, rt, false, fr⟩)) L (lS (L i) s (putT s (i + 1 : Nat) (d.R i) pg 0 ⟨true, rt, false, fr⟩)) L ∧ w'.heap[w.heap.size]? = some (.cells #[.int .i64 0, .int .i64 wh, .int .i64 pg, .int .i64 fr, .int .i64 rt] 27) ∧ Kq w w')) := fun W q => by
    refine (q.out.1.mapR hP (by have := HK.out; omega) hi hl pg fr rt).mono ?_
    rintro e w' ⟨rfl, hW, hK⟩
    have hz := hK _ _ _ (by decide) (by decide) (by decide) (by decide) (by decide) (by decide) (by decide) q.out.2.1
    exact ⟨rfl, HS.out _ hz, hW, hz, q.out.2.2.trans hK⟩
  have HPI := hid (show PI d ((lS (L i) s (putT s (i + 1 : Nat) (d.R i) pg 0 ⟨true, rt, false, fr⟩))) L from hP.put hi pg fr rt (.inl ⟨rfl, rfl⟩))
  have HEQ : Hid ((((lE (L i) (putE s (d.R i) pg 0 ⟨true, rt, false, fr⟩)) : Int) == (lE (L i) (putE s (d.R i) pg 0 ⟨true, rt, false, fr⟩))) = true) := beq_self_eq_true _
  rw [hx] at HOa
  generalize (lS (L i) s (putT s (i + 1 : Nat) (d.R i) pg 0 ⟨true, rt, false, fr⟩)) = s1 at *
  generalize (lE (L i) (putE s (d.R i) pg 0 ⟨true, rt, false, fr⟩)) = E at *
  have hqq := HEQ.out
  have HD : Hid (Pw w0 d k (w.alloc (.cells #[.int .i64 0, .int .i64 wh, .int .i64 pg, .int .i64 fr, .int .i64 rt] 27)) s L s L) := HPW.out
  clear h hP hk h1 hB hz hx hl hi HEQ HPW
  go_enter Tryz.func11, Tryz.ntmps11
  go_wp2
  go_quiet (fail)
  have HM1 : Hid (Pw w0 d k ((w.alloc (.cells #[.int .i64 0, .int .i64 wh, .int .i64 pg, .int .i64 fr, .int .i64 rt] 27)).drewN nq) s L s L ∧ ((w.alloc (.cells #[.int .i64 0, .int .i64 wh, .int .i64 pg, .int .i64 fr, .int .i64 rt] 27)).drewN nq).heap[w.heap.size]? = some (.cells #[.int .i64 0, .int .i64 wh, .int .i64 pg, .int .i64 fr, .int .i64 rt] 27)) := ⟨HD.out.below (below_drewN (Below.refl _ _) nq), P.stay (below_drewN (Below.refl _ _) nq) HZ.out⟩
  have KB1 := hid (KB.out.trans (.of_below (below_drewN (Below.refl _ _) nq)))
  clear gx gb z0 z1 z2 z3 z4 HD HZ KB
  generalize (w.alloc (.cells #[.int .i64 0, .int .i64 wh, .int .i64 pg, .int .i64 fr, .int .i64 rt] 27)).drewN nq = W1 at *
  have gb := (HM1.out.1.cellX HI.out).2
  obtain ⟨z0, z1, z2, z3, z4⟩ := cells5V HM1.out.2
  go_wp2
  go_quiet (fail)
  have HM2 : Hid (Pw w0 d k (W1.drewN nq).drew s L s L ∧ (W1.drewN nq).drew.heap[w.heap.size]? = some (.cells #[.int .i64 0, .int .i64 wh, .int .i64 pg, .int .i64 fr, .int .i64 rt] 27) ∧ Kq w (W1.drewN nq).drew) := ⟨HM1.out.1.below (below_drewN (Below.refl _ _) nq).drew, P.stay (below_drewN (Below.refl _ _) nq).drew HM1.out.2, KB1.out.trans (.of_below (below_drewN (Below.refl W1.heap.size W1) nq).drew)⟩
  have HZ1 := hid HM1.out.2
  clear gb z0 z1 z2 z3 z4 HM1 KB1
  obtain ⟨z0, -, z2, z3, z4⟩ := cells5V (P.stay (below_drewN (Below.refl _ _) nq) HZ1.out)
  generalize W1.drewN nq = W2 at *
  go_wp2
  have hS0 := HS.out _ HM2.out.2.1
  go_region_held3 (fun w' => w'.cell? ⟨w.heap.size, 2, none⟩ = some (.int .i64 pg) ∧ w'.cell? ⟨w.heap.size, 3, none⟩ = some (.int .i64 fr) ∧ w'.cell? ⟨w.heap.size, 4, none⟩ = some (.int .i64 rt)) (first | exact hS0 | assumption)
    (first
      | (go_at_call 21; refine (HOa.out _ (by assumption)).mono ?_; rintro e5 w5 ⟨rfl, hS5, HT5⟩)
      | (go_at_call 41; refine (HRb.out _ (by assumption)).mono ?_; rintro e6 w6 ⟨rfl, hS6, HT6⟩))
  all_goals
    clear hS5 hS6 hS0
    go_wp2
    go_ret
    exact ⟨rfl, s1, L, HT6.out.1.mono (by omega), HPI.out, HT6.out.2.2, fun j => Iff.rfl⟩
set_option maxRecDepth 100000 in
set_option maxHeartbeats 2000000 in
theorem pdo_large (h : Pw w0 d k w s L s L) (hP : PI d s L) (hk : k + 400 ≤ bnd) (wh pg fr rt : Int) {i : Nat} (hi : i < 2) (hbw : bits .and .i64 wh 1 = i) (hl : L i = 1 ∨ L i = 2) :
    Calls Tryz.prog 11 #[.pointer (some ⟨d.g, 0, none⟩), .agg #[.int .i64 1, .int .i64 wh, .int .i64 pg, .int .i64 fr, .int .i64 rt]] w fun e w' => e = .returned (.bool true) ∧ ∃ s' L', Pw w0 d (k + 200) w' s' L' s' L' ∧ PI d s' L' ∧ Kq w w' ∧ ∀ j, L' j = 0 ↔ L j = 0 := by
  have HS : Hid (∀ W : World, W.heap[w.heap.size]? = some (.cells #[.int .i64 1, .int .i64 wh, .int .i64 pg, .int .i64 fr, .int .i64 rt] 27) → (W.cell? ⟨w.heap.size, 2, none⟩ = some (.int .i64 pg) ∧ W.cell? ⟨w.heap.size, 3, none⟩ = some (.int .i64 fr) ∧ W.cell? ⟨w.heap.size, 4, none⟩ = some (.int .i64 rt))) := fun W hW => ⟨(cells5V hW).2.2.1, (cells5V hW).2.2.2.1, (cells5V hW).2.2.2.2⟩
  obtain ⟨a, hx⟩ := h.addr hi hl
  have hB := below_alloc w (.cells #[.int .i64 1, .int .i64 wh, .int .i64 pg, .int .i64 fr, .int .i64 rt] 27)
  have hz := heap_alloc_new w (.cells #[.int .i64 1, .int .i64 wh, .int .i64 pg, .int .i64 fr, .int .i64 rt] 27)
  have h1 := h.below hB
  have KB := hid (Kq.of_below hB)
  obtain ⟨gx, gb⟩ := h1.cellX hi
  rw [hx] at gx
  have HZ := hid hz
  obtain ⟨z0, z1, z2, z3, z4⟩ := cells5V hz
  have hi2 : (i : Int) < 2 := by omega
  have hi0 : (0 : Int) ≤ (i : Int) := by omega
  have HPW := hid h1
  have HI := hid hi
  have HK := hid hk
  have HOa : Hid (∀ W, Hid (Pw w0 d k W s L s L ∧ W.heap[w.heap.size]? = some (.cells #[.int .i64 1, .int .i64 wh, .int .i64 pg, .int .i64 fr, .int .i64 rt] 27) ∧ Kq w W) → Calls Tryz.prog 22 #[.pointer (d.X i), .int .i64 pg, .int .i64 fr, .int .i64 rt] W fun e w' => e = .returned (.int .i64 (lE (L i) (putE s (d.R i) pg 1 ⟨true, rt, true, fr⟩))) ∧ (w'.cell? ⟨w.heap.size, 2, none⟩ = some (.int .i64 pg) ∧ w'.cell? ⟨w.heap.size, 3, none⟩ = some (.int .i64 fr) ∧ w'.cell? ⟨w.heap.size, 4, none⟩ = some (.int .i64 rt)) ∧ Hid (Pw w0 d (k + 100) w' (lS (L i) s (putT s (i + 1 : Nat) (d.R i) pg 1 ⟨true, rt, true, fr⟩)) L s L ∧ w'.heap[w.heap.size]? = some (.cells #[.int .i64 1, .int .i64 wh, .int .i64 pg, .int .i64 fr, .int .i64 rt] 27) ∧ Kq w w')) := fun W q => by
    refine (q.out.1.largeO (by have := HK.out; omega) hi (by omega) pg fr rt).mono ?_
    rintro e w' ⟨rfl, hW, hK⟩
    have hz := hK _ _ _ (by decide) (by decide) (by decide) (by decide) (by decide) (by decide) (by decide) q.out.2.1
    exact ⟨rfl, HS.out _ hz, hW, hz, q.out.2.2.trans hK⟩
  have HRb : Hid (∀ W, Hid (Pw w0 d (k + 100) W (lS (L i) s (putT s (i + 1 : Nat) (d.R i) pg 1 ⟨true, rt, true, fr⟩)) L s L ∧ W.heap[w.heap.size]? = some (.cells #[.int .i64 1, .int .i64 wh, .int .i64 pg, .int .i64 fr, .int .i64 rt] 27) ∧ Kq w W) → Calls Tryz.prog 42 #[.pointer (some ⟨d.B i, 0, none⟩), .int .i64 pg, .int .i64 fr, .int .i64 rt] W fun e w' => e = .returned (.int .i64 (lE (L i) (putE s (d.R i) pg 1 ⟨true, rt, true, fr⟩))) ∧ (w'.cell? ⟨w.heap.size, 2, none⟩ = some (.int .i64 pg) ∧ w'.cell? ⟨w.heap.size, 3, none⟩ = some (.int .i64 fr) ∧ w'.cell? ⟨w.heap.size, 4, none⟩ = some (.int .i64 rt)) ∧ Hid (Pw w0 d (k + 100 + 100) w' (lS (L i) s (putT s (i + 1 : Nat) (d.R i) pg 1 ⟨true, rt, true, fr⟩)) L (lS (L i) s (putT s (i + 1 : Nat) (d.R i) pg 1 ⟨true, rt, true, fr⟩)) L ∧ w'.heap[w.heap.size]? = some (.cells #[.int .i64 1, .int .i64 wh, .int .i64 pg, .int .i64 fr, .int .i64 rt] 27) ∧ Kq w w')) := fun W q => by
    refine (q.out.1.largeR hP (by have := HK.out; omega) hi hl pg fr rt).mono ?_
    rintro e w' ⟨rfl, hW, hK⟩
    have hz := hK _ _ _ (by decide) (by decide) (by decide) (by decide) (by decide) (by decide) (by decide) q.out.2.1
    exact ⟨rfl, HS.out _ hz, hW, hz, q.out.2.2.trans hK⟩
  have HPI := hid (show PI d ((lS (L i) s (putT s (i + 1 : Nat) (d.R i) pg 1 ⟨true, rt, true, fr⟩))) L from hP.put hi pg fr rt (.inr ⟨rfl, rfl⟩))
  have HEQ : Hid ((((lE (L i) (putE s (d.R i) pg 1 ⟨true, rt, true, fr⟩)) : Int) == (lE (L i) (putE s (d.R i) pg 1 ⟨true, rt, true, fr⟩))) = true) := beq_self_eq_true _
  rw [hx] at HOa
  generalize (lS (L i) s (putT s (i + 1 : Nat) (d.R i) pg 1 ⟨true, rt, true, fr⟩)) = s1 at *
  generalize (lE (L i) (putE s (d.R i) pg 1 ⟨true, rt, true, fr⟩)) = E at *
  have hqq := HEQ.out
  have HD : Hid (Pw w0 d k (w.alloc (.cells #[.int .i64 1, .int .i64 wh, .int .i64 pg, .int .i64 fr, .int .i64 rt] 27)) s L s L) := HPW.out
  clear h hP hk h1 hB hz hx hl hi HEQ HPW
  go_enter Tryz.func11, Tryz.ntmps11
  go_wp2
  go_quiet (fail)
  have HM1 : Hid (Pw w0 d k ((w.alloc (.cells #[.int .i64 1, .int .i64 wh, .int .i64 pg, .int .i64 fr, .int .i64 rt] 27)).drewN nq) s L s L ∧ ((w.alloc (.cells #[.int .i64 1, .int .i64 wh, .int .i64 pg, .int .i64 fr, .int .i64 rt] 27)).drewN nq).heap[w.heap.size]? = some (.cells #[.int .i64 1, .int .i64 wh, .int .i64 pg, .int .i64 fr, .int .i64 rt] 27)) := ⟨HD.out.below (below_drewN (Below.refl _ _) nq), P.stay (below_drewN (Below.refl _ _) nq) HZ.out⟩
  have KB1 := hid (KB.out.trans (.of_below (below_drewN (Below.refl _ _) nq)))
  clear gx gb z0 z1 z2 z3 z4 HD HZ KB
  generalize (w.alloc (.cells #[.int .i64 1, .int .i64 wh, .int .i64 pg, .int .i64 fr, .int .i64 rt] 27)).drewN nq = W1 at *
  have gb := (HM1.out.1.cellX HI.out).2
  obtain ⟨z0, z1, z2, z3, z4⟩ := cells5V HM1.out.2
  go_wp2
  go_quiet (fail)
  have HM2 : Hid (Pw w0 d k (W1.drewN nq).drew s L s L ∧ (W1.drewN nq).drew.heap[w.heap.size]? = some (.cells #[.int .i64 1, .int .i64 wh, .int .i64 pg, .int .i64 fr, .int .i64 rt] 27) ∧ Kq w (W1.drewN nq).drew) := ⟨HM1.out.1.below (below_drewN (Below.refl _ _) nq).drew, P.stay (below_drewN (Below.refl _ _) nq).drew HM1.out.2, KB1.out.trans (.of_below (below_drewN (Below.refl W1.heap.size W1) nq).drew)⟩
  have HZ1 := hid HM1.out.2
  clear gb z0 z1 z2 z3 z4 HM1 KB1
  obtain ⟨z0, -, z2, z3, z4⟩ := cells5V (P.stay (below_drewN (Below.refl _ _) nq) HZ1.out)
  generalize W1.drewN nq = W2 at *
  go_wp2
  have hS0 := HS.out _ HM2.out.2.1
  go_region_held3 (fun w' => w'.cell? ⟨w.heap.size, 2, none⟩ = some (.int .i64 pg) ∧ w'.cell? ⟨w.heap.size, 3, none⟩ = some (.int .i64 fr) ∧ w'.cell? ⟨w.heap.size, 4, none⟩ = some (.int .i64 rt)) (first | exact hS0 | assumption)
    (first
      | (go_at_call 22; refine (HOa.out _ (by assumption)).mono ?_; rintro e5 w5 ⟨rfl, hS5, HT5⟩)
      | (go_at_call 42; refine (HRb.out _ (by assumption)).mono ?_; rintro e6 w6 ⟨rfl, hS6, HT6⟩))
  all_goals
    clear hS5 hS6 hS0
    go_wp2
    go_ret
    exact ⟨rfl, s1, L, HT6.out.1.mono (by omega), HPI.out, HT6.out.2.2, fun j => Iff.rfl⟩
set_option maxRecDepth 100000 in
set_option maxHeartbeats 2000000 in
theorem pdo_protect (h : Pw w0 d k w s L s L) (hP : PI d s L) (hk : k + 400 ≤ bnd) (wh pg fr rt : Int) {i : Nat} (hi : i < 2) (hbw : bits .and .i64 wh 1 = i) (hl : L i = 1 ∨ L i = 2) :
    Calls Tryz.prog 11 #[.pointer (some ⟨d.g, 0, none⟩), .agg #[.int .i64 3, .int .i64 wh, .int .i64 pg, .int .i64 fr, .int .i64 rt]] w fun e w' => e = .returned (.bool true) ∧ ∃ s' L', Pw w0 d (k + 200) w' s' L' s' L' ∧ PI d s' L' ∧ Kq w w' ∧ ∀ j, L' j = 0 ↔ L j = 0 := by
  have HS : Hid (∀ W : World, W.heap[w.heap.size]? = some (.cells #[.int .i64 3, .int .i64 wh, .int .i64 pg, .int .i64 fr, .int .i64 rt] 27) → (W.cell? ⟨w.heap.size, 2, none⟩ = some (.int .i64 pg) ∧ W.cell? ⟨w.heap.size, 3, none⟩ = some (.int .i64 fr) ∧ W.cell? ⟨w.heap.size, 4, none⟩ = some (.int .i64 rt))) := fun W hW => ⟨(cells5V hW).2.2.1, (cells5V hW).2.2.2.1, (cells5V hW).2.2.2.2⟩
  obtain ⟨a, hx⟩ := h.addr hi hl
  have hB := below_alloc w (.cells #[.int .i64 3, .int .i64 wh, .int .i64 pg, .int .i64 fr, .int .i64 rt] 27)
  have hz := heap_alloc_new w (.cells #[.int .i64 3, .int .i64 wh, .int .i64 pg, .int .i64 fr, .int .i64 rt] 27)
  have h1 := h.below hB
  have KB := hid (Kq.of_below hB)
  obtain ⟨gx, gb⟩ := h1.cellX hi
  rw [hx] at gx
  have HZ := hid hz
  obtain ⟨z0, z1, z2, z3, z4⟩ := cells5V hz
  have hi2 : (i : Int) < 2 := by omega
  have hi0 : (0 : Int) ≤ (i : Int) := by omega
  have HPW := hid h1
  have HI := hid hi
  have HK := hid hk
  have HOa : Hid (∀ W, Hid (Pw w0 d k W s L s L ∧ W.heap[w.heap.size]? = some (.cells #[.int .i64 3, .int .i64 wh, .int .i64 pg, .int .i64 fr, .int .i64 rt] 27) ∧ Kq w W) → Calls Tryz.prog 24 #[.pointer (d.X i), .int .i64 pg, .int .i64 rt] W fun e w' => e = .returned (.int .i64 (lE (L i) (prE s (i + 1 : Nat) (d.R i) pg rt))) ∧ (w'.cell? ⟨w.heap.size, 2, none⟩ = some (.int .i64 pg) ∧ w'.cell? ⟨w.heap.size, 3, none⟩ = some (.int .i64 fr) ∧ w'.cell? ⟨w.heap.size, 4, none⟩ = some (.int .i64 rt)) ∧ Hid (Pw w0 d (k + 100) w' (lS (L i) s (prS s (i + 1 : Nat) (d.R i) pg rt)) L s L ∧ w'.heap[w.heap.size]? = some (.cells #[.int .i64 3, .int .i64 wh, .int .i64 pg, .int .i64 fr, .int .i64 rt] 27) ∧ Kq w w')) := fun W q => by
    refine (q.out.1.protectO (by have := HK.out; omega) hi (by omega) pg rt).mono ?_
    rintro e w' ⟨rfl, hW, hK⟩
    have hz := hK _ _ _ (by decide) (by decide) (by decide) (by decide) (by decide) (by decide) (by decide) q.out.2.1
    exact ⟨rfl, HS.out _ hz, hW, hz, q.out.2.2.trans hK⟩
  have HRb : Hid (∀ W, Hid (Pw w0 d (k + 100) W (lS (L i) s (prS s (i + 1 : Nat) (d.R i) pg rt)) L s L ∧ W.heap[w.heap.size]? = some (.cells #[.int .i64 3, .int .i64 wh, .int .i64 pg, .int .i64 fr, .int .i64 rt] 27) ∧ Kq w W) → Calls Tryz.prog 44 #[.pointer (some ⟨d.B i, 0, none⟩), .int .i64 pg, .int .i64 rt] W fun e w' => e = .returned (.int .i64 (lE (L i) (prE s (i + 1 : Nat) (d.R i) pg rt))) ∧ (w'.cell? ⟨w.heap.size, 2, none⟩ = some (.int .i64 pg) ∧ w'.cell? ⟨w.heap.size, 3, none⟩ = some (.int .i64 fr) ∧ w'.cell? ⟨w.heap.size, 4, none⟩ = some (.int .i64 rt)) ∧ Hid (Pw w0 d (k + 100 + 100) w' (lS (L i) s (prS s (i + 1 : Nat) (d.R i) pg rt)) L (lS (L i) s (prS s (i + 1 : Nat) (d.R i) pg rt)) L ∧ w'.heap[w.heap.size]? = some (.cells #[.int .i64 3, .int .i64 wh, .int .i64 pg, .int .i64 fr, .int .i64 rt] 27) ∧ Kq w w')) := fun W q => by
    refine (q.out.1.protectR hP (by have := HK.out; omega) hi hl pg rt).mono ?_
    rintro e w' ⟨rfl, hW, hK⟩
    have hz := hK _ _ _ (by decide) (by decide) (by decide) (by decide) (by decide) (by decide) (by decide) q.out.2.1
    exact ⟨rfl, HS.out _ hz, hW, hz, q.out.2.2.trans hK⟩
  have HPI := hid (show PI d ((lS (L i) s (prS s (i + 1 : Nat) (d.R i) pg rt))) L from hP.pr hi pg rt)
  have HEQ : Hid ((((lE (L i) (prE s (i + 1 : Nat) (d.R i) pg rt)) : Int) == (lE (L i) (prE s (i + 1 : Nat) (d.R i) pg rt))) = true) := beq_self_eq_true _
  rw [hx] at HOa
  generalize (lS (L i) s (prS s (i + 1 : Nat) (d.R i) pg rt)) = s1 at *
  generalize (lE (L i) (prE s (i + 1 : Nat) (d.R i) pg rt)) = E at *
  have hqq := HEQ.out
  have HD : Hid (Pw w0 d k (w.alloc (.cells #[.int .i64 3, .int .i64 wh, .int .i64 pg, .int .i64 fr, .int .i64 rt] 27)) s L s L) := HPW.out
  clear h hP hk h1 hB hz hx hl hi HEQ HPW
  go_enter Tryz.func11, Tryz.ntmps11
  go_wp2
  go_quiet (fail)
  have HM1 : Hid (Pw w0 d k ((w.alloc (.cells #[.int .i64 3, .int .i64 wh, .int .i64 pg, .int .i64 fr, .int .i64 rt] 27)).drewN nq) s L s L ∧ ((w.alloc (.cells #[.int .i64 3, .int .i64 wh, .int .i64 pg, .int .i64 fr, .int .i64 rt] 27)).drewN nq).heap[w.heap.size]? = some (.cells #[.int .i64 3, .int .i64 wh, .int .i64 pg, .int .i64 fr, .int .i64 rt] 27)) := ⟨HD.out.below (below_drewN (Below.refl _ _) nq), P.stay (below_drewN (Below.refl _ _) nq) HZ.out⟩
  have KB1 := hid (KB.out.trans (.of_below (below_drewN (Below.refl _ _) nq)))
  clear gx gb z0 z1 z2 z3 z4 HD HZ KB
  generalize (w.alloc (.cells #[.int .i64 3, .int .i64 wh, .int .i64 pg, .int .i64 fr, .int .i64 rt] 27)).drewN nq = W1 at *
  have gb := (HM1.out.1.cellX HI.out).2
  obtain ⟨z0, z1, z2, z3, z4⟩ := cells5V HM1.out.2
  go_wp2
  go_quiet (fail)
  have HM2 : Hid (Pw w0 d k (W1.drewN nq).drew s L s L ∧ (W1.drewN nq).drew.heap[w.heap.size]? = some (.cells #[.int .i64 3, .int .i64 wh, .int .i64 pg, .int .i64 fr, .int .i64 rt] 27) ∧ Kq w (W1.drewN nq).drew) := ⟨HM1.out.1.below (below_drewN (Below.refl _ _) nq).drew, P.stay (below_drewN (Below.refl _ _) nq).drew HM1.out.2, KB1.out.trans (.of_below (below_drewN (Below.refl W1.heap.size W1) nq).drew)⟩
  have HZ1 := hid HM1.out.2
  clear gb z0 z1 z2 z3 z4 HM1 KB1
  obtain ⟨z0, -, z2, z3, z4⟩ := cells5V (P.stay (below_drewN (Below.refl _ _) nq) HZ1.out)
  generalize W1.drewN nq = W2 at *
  go_wp2
  have hS0 := HS.out _ HM2.out.2.1
  go_region_held3 (fun w' => w'.cell? ⟨w.heap.size, 2, none⟩ = some (.int .i64 pg) ∧ w'.cell? ⟨w.heap.size, 3, none⟩ = some (.int .i64 fr) ∧ w'.cell? ⟨w.heap.size, 4, none⟩ = some (.int .i64 rt)) (first | exact hS0 | assumption)
    (first
      | (go_at_call 24; refine (HOa.out _ (by assumption)).mono ?_; rintro e5 w5 ⟨rfl, hS5, HT5⟩)
      | (go_at_call 44; refine (HRb.out _ (by assumption)).mono ?_; rintro e6 w6 ⟨rfl, hS6, HT6⟩))
  all_goals
    clear hS5 hS6 hS0
    go_wp2
    go_ret
    exact ⟨rfl, s1, L, HT6.out.1.mono (by omega), HPI.out, HT6.out.2.2, fun j => Iff.rfl⟩
set_option maxRecDepth 100000 in
set_option maxHeartbeats 2000000 in
theorem pdo_unmap (h : Pw w0 d k w s L s L) (hP : PI d s L) (hk : k + 400 ≤ bnd) (wh pg fr rt : Int) {i : Nat} (hi : i < 2) (hbw : bits .and .i64 wh 1 = i) (hl : L i = 1 ∨ L i = 2) :
    Calls Tryz.prog 11 #[.pointer (some ⟨d.g, 0, none⟩), .agg #[.int .i64 2, .int .i64 wh, .int .i64 pg, .int .i64 fr, .int .i64 rt]] w fun e w' => e = .returned (.bool true) ∧ ∃ s' L', Pw w0 d (k + 200) w' s' L' s' L' ∧ PI d s' L' ∧ Kq w w' ∧ ∀ j, L' j = 0 ↔ L j = 0 := by
  obtain ⟨a, hx⟩ := h.addr hi hl
  have hB := below_alloc w (.cells #[.int .i64 2, .int .i64 wh, .int .i64 pg, .int .i64 fr, .int .i64 rt] 27)
  have hz := heap_alloc_new w (.cells #[.int .i64 2, .int .i64 wh, .int .i64 pg, .int .i64 fr, .int .i64 rt] 27)
  have h1 := h.below hB
  have KB := hid (Kq.of_below hB)
  obtain ⟨gx, gb⟩ := h1.cellX hi
  rw [hx] at gx
  have HZ := hid hz
  obtain ⟨z0, z1, z2, z3, z4⟩ := cells5V hz
  have hi2 : (i : Int) < 2 := by omega
  have hi0 : (0 : Int) ≤ (i : Int) := by omega
  have HPW := hid h1
  have HI := hid hi
  have HK := hid hk
  have HPI := hid (hP.un hi pg)
  have HO : Hid (∀ W, Pw w0 d k W s L s L → _) := hid fun W (q : Pw w0 d k W s L s L) => q.unmapO (by omega) hi (by omega) pg
  have HR := hid fun W (q : Pw w0 d (k + 100) W (lS (L i) s (unS s (i + 1 : Nat) (d.R i) pg)) L s L) => q.unmapR hP (by omega) hi hl pg
  rw [hx] at HO
  have HE1 : Hid ((lE (L i) (unE s (i + 1 : Nat) (d.R i) pg) == lE (L i) (unE s (i + 1 : Nat) (d.R i) pg)) = true) := beq_self_eq_true _
  have HE2 : Hid (((if L i = 1 then unF s (i + 1 : Nat) (d.R i) pg else 0) == (if L i = 1 then unF s (i + 1 : Nat) (d.R i) pg else 0)) = true) := beq_self_eq_true _
  generalize lS (L i) s (unS s (i + 1 : Nat) (d.R i) pg) = s1 at *
  generalize lE (L i) (unE s (i + 1 : Nat) (d.R i) pg) = E at *
  generalize (if L i = 1 then unF s (i + 1 : Nat) (d.R i) pg else 0) = F at *
  have hq1 := HE1.out
  have hq2 := HE2.out
  clear HE1 HE2 hP hl
  have HD : Hid (Pw w0 d k (w.alloc (.cells #[.int .i64 2, .int .i64 wh, .int .i64 pg, .int .i64 fr, .int .i64 rt] 27)) s L s L) := HPW.out
  clear h hk h1 hB hz hx hi HPW
  go_enter Tryz.func11, Tryz.ntmps11
  go_wp2
  go_quiet (fail)
  have HM1 : Hid (Pw w0 d k ((w.alloc (.cells #[.int .i64 2, .int .i64 wh, .int .i64 pg, .int .i64 fr, .int .i64 rt] 27)).drewN nq) s L s L ∧ ((w.alloc (.cells #[.int .i64 2, .int .i64 wh, .int .i64 pg, .int .i64 fr, .int .i64 rt] 27)).drewN nq).heap[w.heap.size]? = some (.cells #[.int .i64 2, .int .i64 wh, .int .i64 pg, .int .i64 fr, .int .i64 rt] 27)) := ⟨HD.out.below (below_drewN (Below.refl _ _) nq), P.stay (below_drewN (Below.refl _ _) nq) HZ.out⟩
  have KB1 := hid (KB.out.trans (.of_below (below_drewN (Below.refl _ _) nq)))
  clear gx gb z0 z1 z2 z3 z4 HD HZ KB
  generalize (w.alloc (.cells #[.int .i64 2, .int .i64 wh, .int .i64 pg, .int .i64 fr, .int .i64 rt] 27)).drewN nq = W1 at *
  have gb := (HM1.out.1.cellX HI.out).2
  obtain ⟨z0, z1, z2, z3, z4⟩ := cells5V HM1.out.2
  go_wp2
  go_quiet (fail)
  have HM2 : Hid (Pw w0 d k (W1.drewN nq) s L s L ∧ (W1.drewN nq).heap[w.heap.size]? = some (.cells #[.int .i64 2, .int .i64 wh, .int .i64 pg, .int .i64 fr, .int .i64 rt] 27) ∧ Kq w (W1.drewN nq)) := ⟨HM1.out.1.below (below_drewN (Below.refl _ _) nq), P.stay (below_drewN (Below.refl _ _) nq) HM1.out.2, KB1.out.trans (.of_below (below_drewN (Below.refl W1.heap.size W1) nq))⟩
  clear gb z0 z1 z2 z3 z4 HM1 KB1
  generalize W1.drewN nq = W2 at *
  obtain ⟨z0, -, z2, z3, z4⟩ := cells5V HM2.out.2.1
  go_wp2_with fail
  refine (HO.out _ HM2.out.1).mono ?_
  rintro e w5 ⟨rfl, hW, hK⟩
  have HM5 := hid (And.intro hW (And.intro (hK _ _ _ (by decide) (by decide) (by decide) (by decide) (by decide) (by decide) (by decide) HM2.out.2.1) (HM2.out.2.2.trans hK)))
  clear hW hK z0 z2 z3 z4
  obtain ⟨-, -, z2, -, -⟩ := cells5V HM5.out.2.1
  go_wp2_with fail
  refine (HR.out _ HM5.out.1).mono ?_
  rintro e w6 ⟨rfl, hW, hK⟩
  have HM6 := hid (And.intro hW (HM5.out.2.2.trans hK))
  clear hW hK z2
  go_wp2
  go_ret
  exact ⟨rfl, s1, L, HM6.out.1.mono (by omega), HPI.out, HM6.out.2, fun j => Iff.rfl⟩
set_option maxRecDepth 100000 in
set_option maxHeartbeats 2000000 in
theorem pdo_drop (h : Pw w0 d k w s L s L) (hP : PI d s L) (hk : k + 400 ≤ bnd) (wh pg fr rt : Int) {i : Nat} (hi : i < 2) (hbw : bits .and .i64 wh 1 = i) (hl : L i = 1 ∨ L i = 2) :
    Calls Tryz.prog 11 #[.pointer (some ⟨d.g, 0, none⟩), .agg #[.int .i64 4, .int .i64 wh, .int .i64 pg, .int .i64 fr, .int .i64 rt]] w fun e w' => e = .returned (.bool true) ∧ ∃ s' L', Pw w0 d (k + 200) w' s' L' s' L' ∧ PI d s' L' ∧ Kq w w' ∧ ∀ j, L' j = 0 ↔ L j = 0 := by
  obtain ⟨a, hx⟩ := h.addr hi hl
  have hB := below_alloc w (.cells #[.int .i64 4, .int .i64 wh, .int .i64 pg, .int .i64 fr, .int .i64 rt] 27)
  have hz := heap_alloc_new w (.cells #[.int .i64 4, .int .i64 wh, .int .i64 pg, .int .i64 fr, .int .i64 rt] 27)
  have h1 := h.below hB
  have KB := hid (Kq.of_below hB)
  obtain ⟨gx, gb⟩ := h1.cellX hi
  rw [hx] at gx
  have HZ := hid hz
  obtain ⟨z0, z1, z2, z3, z4⟩ := cells5V hz
  have hi2 : (i : Int) < 2 := by omega
  have hi0 : (0 : Int) ≤ (i : Int) := by omega
  have HPW := hid h1
  have HI := hid hi
  have HK := hid hk
  have HPI := hid (hP.drop hi)
  have HO := hid fun W (q : Pw w0 d k W s L s L) => q.dropO hi hl
  have HR := hid fun W (q : Pw w0 d k W (lS (L i) s ⟨s.xs, turnAll s.ds (allL s.xs (d.R i))⟩) (upL L i) s L) => q.dropR hP hi hl
  rw [hx] at HO
  have HLL : Hid (∀ j, upL L i j = 0 ↔ L j = 0) := fun j => by
    unfold upL
    split
    · rename_i e
      rw [e]
      omega
    · exact Iff.rfl
  have HA5 : Hid ((lA (L i) (allL s.xs (d.R i))).length ≤ 1000000) := by
    unfold lA Hid
    split
    · have := allL_5000 s.xs (d.R i)
      omega
    · simp
  generalize lS (L i) s ⟨s.xs, turnAll s.ds (allL s.xs (d.R i))⟩ = s1 at *
  generalize lA (L i) (allL s.xs (d.R i)) = A at *
  clear hP hl
  have HD : Hid (Pw w0 d k (w.alloc (.cells #[.int .i64 4, .int .i64 wh, .int .i64 pg, .int .i64 fr, .int .i64 rt] 27)) s L s L) := HPW.out
  clear h hk h1 hB hz hx hi HPW
  go_enter Tryz.func11, Tryz.ntmps11
  go_wp2
  go_quiet (fail)
  have HM1 : Hid (Pw w0 d k ((w.alloc (.cells #[.int .i64 4, .int .i64 wh, .int .i64 pg, .int .i64 fr, .int .i64 rt] 27)).drewN nq) s L s L ∧ ((w.alloc (.cells #[.int .i64 4, .int .i64 wh, .int .i64 pg, .int .i64 fr, .int .i64 rt] 27)).drewN nq).heap[w.heap.size]? = some (.cells #[.int .i64 4, .int .i64 wh, .int .i64 pg, .int .i64 fr, .int .i64 rt] 27)) := ⟨HD.out.below (below_drewN (Below.refl _ _) nq), P.stay (below_drewN (Below.refl _ _) nq) HZ.out⟩
  have KB1 := hid (KB.out.trans (.of_below (below_drewN (Below.refl _ _) nq)))
  clear gx gb z0 z1 z2 z3 z4 HD HZ KB
  generalize (w.alloc (.cells #[.int .i64 4, .int .i64 wh, .int .i64 pg, .int .i64 fr, .int .i64 rt] 27)).drewN nq = W1 at *
  have gb := (HM1.out.1.cellX HI.out).2
  obtain ⟨z0, z1, z2, z3, z4⟩ := cells5V HM1.out.2
  go_wp2
  go_quiet (fail)
  have HM2 : Hid (Pw w0 d k (W1.drewN nq) s L s L ∧ (W1.drewN nq).heap[w.heap.size]? = some (.cells #[.int .i64 4, .int .i64 wh, .int .i64 pg, .int .i64 fr, .int .i64 rt] 27) ∧ Kq w (W1.drewN nq)) := ⟨HM1.out.1.below (below_drewN (Below.refl _ _) nq), P.stay (below_drewN (Below.refl _ _) nq) HM1.out.2, KB1.out.trans (.of_below (below_drewN (Below.refl W1.heap.size W1) nq))⟩
  clear gb z0 z1 z2 z3 z4 HM1 KB1
  generalize W1.drewN nq = W2 at *
  obtain ⟨z0, -, z2, z3, z4⟩ := cells5V HM2.out.2.1
  go_wp2_with fail
  refine (HO.out _ HM2.out.1).mono ?_
  rintro e w5 ⟨⟨x, n, rfl, hx⟩, hW, hK⟩
  have HM5 := hid (And.intro hW (HM2.out.2.2.trans hK))
  have HX5 := hid hx
  clear hW hK hx z0 z2 z3 z4
  go_wp2_with fail
  refine (HR.out _ HM5.out.1).mono ?_
  rintro e w6 ⟨⟨y, rfl, hy⟩, hW, hK⟩
  have HM6 := hid (And.intro hW (HM5.out.2.trans hK))
  have HX6 := hid (LiesI.of_own (own_kq HX5.out hK) HA5.out)
  have HY6 := hid hy
  clear hW hK hy
  go_wp2_with fail
  refine (sameI_any HX6.out HY6.out).mono ?_
  rintro e w7 ⟨rfl, hB⟩
  have HB7 := hid hB
  clear hB
  go_wp2
  go_ret
  exact ⟨rfl, s1, upL L i, (HM6.out.1.below HB7.out).mono (by omega), HPI.out, HM6.out.2.trans (.of_below HB7.out), HLL.out⟩
set_option maxRecDepth 100000 in
set_option maxHeartbeats 2000000 in
theorem pdo_other (h : Pw w0 d k w s L s L) (hP : PI d s L) (hk : k + 400 ≤ bnd) (kd : Int) (wh pg fr rt : Int) {i : Nat} (hi : i < 2) (hbw : bits .and .i64 wh 1 = i) (hl : L i = 1 ∨ L i = 2) (k0 : (kd == 0) = false) (k1 : (kd == 1) = false) (k2 : (kd == 2) = false) (k3 : (kd == 3) = false) (k4 : (kd == 4) = false) :
    Calls Tryz.prog 11 #[.pointer (some ⟨d.g, 0, none⟩), .agg #[.int .i64 kd, .int .i64 wh, .int .i64 pg, .int .i64 fr, .int .i64 rt]] w fun e w' => e = .returned (.bool true) ∧ ∃ s' L', Pw w0 d (k + 200) w' s' L' s' L' ∧ PI d s' L' ∧ Kq w w' ∧ ∀ j, L' j = 0 ↔ L j = 0 := by
  obtain ⟨a, hx⟩ := h.addr hi hl
  have hB := below_alloc w (.cells #[.int .i64 kd, .int .i64 wh, .int .i64 pg, .int .i64 fr, .int .i64 rt] 27)
  have hz := heap_alloc_new w (.cells #[.int .i64 kd, .int .i64 wh, .int .i64 pg, .int .i64 fr, .int .i64 rt] 27)
  have h1 := h.below hB
  have KB := hid (Kq.of_below hB)
  obtain ⟨gx, gb⟩ := h1.cellX hi
  rw [hx] at gx
  have HZ := hid hz
  obtain ⟨z0, z1, z2, z3, z4⟩ := cells5V hz
  have hi2 : (i : Int) < 2 := by omega
  have hi0 : (0 : Int) ≤ (i : Int) := by omega
  have HPW := hid h1
  have HI := hid hi
  have HK := hid hk
  have HPI := hid hP
  clear hP hl
  have HD : Hid (Pw w0 d k (w.alloc (.cells #[.int .i64 kd, .int .i64 wh, .int .i64 pg, .int .i64 fr, .int .i64 rt] 27)) s L s L) := HPW.out
  clear h hk h1 hB hz hx hi HPW
  go_enter Tryz.func11, Tryz.ntmps11
  go_wp2
  go_quiet (fail)
  have HM1 : Hid (Pw w0 d k ((w.alloc (.cells #[.int .i64 kd, .int .i64 wh, .int .i64 pg, .int .i64 fr, .int .i64 rt] 27)).drewN nq) s L s L ∧ ((w.alloc (.cells #[.int .i64 kd, .int .i64 wh, .int .i64 pg, .int .i64 fr, .int .i64 rt] 27)).drewN nq).heap[w.heap.size]? = some (.cells #[.int .i64 kd, .int .i64 wh, .int .i64 pg, .int .i64 fr, .int .i64 rt] 27)) := ⟨HD.out.below (below_drewN (Below.refl _ _) nq), P.stay (below_drewN (Below.refl _ _) nq) HZ.out⟩
  have KB1 := hid (KB.out.trans (.of_below (below_drewN (Below.refl _ _) nq)))
  clear gx gb z0 z1 z2 z3 z4 HD HZ KB
  generalize (w.alloc (.cells #[.int .i64 kd, .int .i64 wh, .int .i64 pg, .int .i64 fr, .int .i64 rt] 27)).drewN nq = W1 at *
  have gb := (HM1.out.1.cellX HI.out).2
  obtain ⟨z0, z1, z2, z3, z4⟩ := cells5V HM1.out.2
  go_wp2
  go_quiet (fail)
  have HM2 : Hid (Pw w0 d k (W1.drewN nq) s L s L ∧ (W1.drewN nq).heap[w.heap.size]? = some (.cells #[.int .i64 kd, .int .i64 wh, .int .i64 pg, .int .i64 fr, .int .i64 rt] 27) ∧ Kq w (W1.drewN nq)) := ⟨HM1.out.1.below (below_drewN (Below.refl _ _) nq), P.stay (below_drewN (Below.refl _ _) nq) HM1.out.2, KB1.out.trans (.of_below (below_drewN (Below.refl W1.heap.size W1) nq))⟩
  clear gb z0 z1 z2 z3 z4 HM1 KB1
  generalize W1.drewN nq = W2 at *
  obtain ⟨z0, -, z2, z3, z4⟩ := cells5V HM2.out.2.1
  go_wp2
  go_ret
  exact ⟨rfl, s, L, HM2.out.1.mono (by omega), HPI.out, HM2.out.2.2, fun j => Iff.rfl⟩
set_option maxRecDepth 100000 in
set_option maxHeartbeats 2000000 in
theorem pdo_none (h : Pw w0 d k w s L s L) (hP : PI d s L) (hk : k + 400 ≤ bnd) (kd : Int) (wh pg fr rt : Int) {i : Nat} (hi : i < 2) (hbw : bits .and .i64 wh 1 = i) (hl : L i = 0) :
    Calls Tryz.prog 11 #[.pointer (some ⟨d.g, 0, none⟩), .agg #[.int .i64 kd, .int .i64 wh, .int .i64 pg, .int .i64 fr, .int .i64 rt]] w fun e w' => e = .returned (.bool true) ∧ ∃ s' L', Pw w0 d (k + 200) w' s' L' s' L' ∧ PI d s' L' ∧ Kq w w' ∧ ∀ j, L' j = 0 ↔ L j = 0 := by
  have hx : d.X i = none := by
    rcases h.ts i hi with ⟨-, h2⟩ | ⟨h1, -⟩ | ⟨h1, -⟩
    · exact h2
    · omega
    · omega
  have hB := below_alloc w (.cells #[.int .i64 kd, .int .i64 wh, .int .i64 pg, .int .i64 fr, .int .i64 rt] 27)
  have hz := heap_alloc_new w (.cells #[.int .i64 kd, .int .i64 wh, .int .i64 pg, .int .i64 fr, .int .i64 rt] 27)
  have h1 := h.below hB
  have KB := hid (Kq.of_below hB)
  obtain ⟨gx, gb⟩ := h1.cellX hi
  rw [hx] at gx
  have HZ := hid hz
  obtain ⟨z0, z1, z2, z3, z4⟩ := cells5V hz
  have hi2 : (i : Int) < 2 := by omega
  have hi0 : (0 : Int) ≤ (i : Int) := by omega
  have HPW := hid h1
  have HI := hid hi
  have HK := hid hk
  have HPI := hid hP
  clear hP hl
  have HD : Hid (Pw w0 d k (w.alloc (.cells #[.int .i64 kd, .int .i64 wh, .int .i64 pg, .int .i64 fr, .int .i64 rt] 27)) s L s L) := HPW.out
  clear h hk h1 hB hz hx hi HPW
  go_enter Tryz.func11, Tryz.ntmps11
  go_wp2
  go_quiet (fail)
  have HM1 : Hid (Pw w0 d k ((w.alloc (.cells #[.int .i64 kd, .int .i64 wh, .int .i64 pg, .int .i64 fr, .int .i64 rt] 27)).drewN nq) s L s L ∧ ((w.alloc (.cells #[.int .i64 kd, .int .i64 wh, .int .i64 pg, .int .i64 fr, .int .i64 rt] 27)).drewN nq).heap[w.heap.size]? = some (.cells #[.int .i64 kd, .int .i64 wh, .int .i64 pg, .int .i64 fr, .int .i64 rt] 27)) := ⟨HD.out.below (below_drewN (Below.refl _ _) nq), P.stay (below_drewN (Below.refl _ _) nq) HZ.out⟩
  have KB1 := hid (KB.out.trans (.of_below (below_drewN (Below.refl _ _) nq)))
  clear gx gb z0 z1 z2 z3 z4 HD HZ KB
  generalize (w.alloc (.cells #[.int .i64 kd, .int .i64 wh, .int .i64 pg, .int .i64 fr, .int .i64 rt] 27)).drewN nq = W1 at *
  have gb := (HM1.out.1.cellX HI.out).2
  obtain ⟨z0, z1, z2, z3, z4⟩ := cells5V HM1.out.2
  go_wp2
  go_quiet (fail)
  have HM2 : Hid (Pw w0 d k (W1.drewN nq) s L s L ∧ (W1.drewN nq).heap[w.heap.size]? = some (.cells #[.int .i64 kd, .int .i64 wh, .int .i64 pg, .int .i64 fr, .int .i64 rt] 27) ∧ Kq w (W1.drewN nq)) := ⟨HM1.out.1.below (below_drewN (Below.refl _ _) nq), P.stay (below_drewN (Below.refl _ _) nq) HM1.out.2, KB1.out.trans (.of_below (below_drewN (Below.refl W1.heap.size W1) nq))⟩
  clear gb z0 z1 z2 z3 z4 HM1 KB1
  generalize W1.drewN nq = W2 at *
  obtain ⟨z0, -, z2, z3, z4⟩ := cells5V HM2.out.2.1
  go_wp2
  go_ret
  exact ⟨rfl, s, L, HM2.out.1.mono (by omega), HPI.out, HM2.out.2.2, fun j => Iff.rfl⟩
/-- What a round's call tells and leaves: both sides tell the same, and are alike behind it. -/
theorem pdo_at (h : Pw w0 d k w s L s L) (hP : PI d s L) (hk : k + 400 ≤ bnd) (kd wh pg fr rt : Int) :
    Calls Tryz.prog 11 #[.pointer (some ⟨d.g, 0, none⟩), .agg #[.int .i64 kd, .int .i64 wh, .int .i64 pg, .int .i64 fr, .int .i64 rt]] w fun e w' => e = .returned (.bool true) ∧ ∃ s' L', Pw w0 d (k + 200) w' s' L' s' L' ∧ PI d s' L' ∧ Kq w w' ∧ ∀ j, L' j = 0 ↔ L j = 0 := by
  obtain ⟨i, hi, hb⟩ := and_one wh
  by_cases h0 : L i = 0
  · exact pdo_none h hP hk kd wh pg fr rt hi hb h0
  · have hl : L i = 1 ∨ L i = 2 := by
      by_cases h1 : L i = 1
      · exact .inl h1
      · exact .inr (h.two hi h1 h0)
    by_cases k0 : kd = 0
    · subst k0; exact pdo_map h hP hk wh pg fr rt hi hb hl
    · by_cases k1 : kd = 1
      · subst k1; exact pdo_large h hP hk wh pg fr rt hi hb hl
      · by_cases k2 : kd = 2
        · subst k2; exact pdo_unmap h hP hk wh pg fr rt hi hb hl
        · by_cases k3 : kd = 3
          · subst k3; exact pdo_protect h hP hk wh pg fr rt hi hb hl
          · by_cases k4 : kd = 4
            · subst k4; exact pdo_drop h hP hk wh pg fr rt hi hb hl
            · exact pdo_other h hP hk kd wh pg fr rt hi hb hl (by simpa using k0) (by simpa using k1) (by simpa using k2) (by simpa using k3) (by simpa using k4)
end
end Go.Proofs.YtpfmmlbakbhklaaGreatDoor
namespace Go.Proofs.YtpfmmlbakbhklaaGreatDoor
open Go.RowKit
def dX (a0 : Nat) (x1 : Option Addr) : Nat → Option Addr := fun i => if i = 0 then some ⟨a0, 0, none⟩ else x1
def dB (b0 b1 : Nat) : Nat → Nat := fun i => if i = 0 then b0 else b1
def dR (r0 r1 : Int) : Nat → Int := fun i => if i = 0 then r0 else r1
theorem two_lt {i : Nat} (h : i < 2) : i = 0 ∨ i = 1 := by omega
/-- The trees where it begins. -/
theorem start_inv (m : Nat) (hm : m ≤ 4095) : ∃ ty, Inv (s2 m) ty (-1) ∧ ty (newF (z0 (m + 1)) 1) = some ⟨1, 3, 0⟩ ∧ (newE (s1 m) 2 = 0 → ty (newF (s1 m) 2) = some ⟨2, 3, 0⟩) := by
  by_cases h1 : 1 ≤ m
  · obtain ⟨ty, h⟩ := bare_at h1 hm
    exact ⟨ty, h.inv, h.r0, fun _ => h.r1⟩
  · obtain rfl : m = 0 := by omega
    have h0 := inv_z0 (n := 1) (by omega)
    have hf0 := z0_free 1
    obtain ⟨a1, a2, a3, a4, -⟩ := h0.fresh (o := 1) (by decide) (by omega) (fun f t hf => by cases hf)
    have hne : newE (s1 0) 2 ≠ 0 := fun e => by
      have := newE_free e
      have h4 : O.cK (s1 0).ds 0 + 1 = O.cK (z0 1).ds 0 := a4
      omega
    have hs : s2 0 = s1 0 := newS_no hne
    rw [hs]
    exact ⟨_, a2, upd_self _ _ _, fun e => absurd e hne⟩
theorem Pw.start {w w1 : World} {m : Nat} {u v : Si} {a0 b0 a1 b1 : Nat} {x1 : Option Addr} (hm : m ≤ 4095) (hb : Bgn w m w1 u v a0 b0 a1 b1 x1) :
    ∃ d L, d.g = w.heap.size ∧ Pw w d 32 w1 (s2 m) L (s2 m) L ∧ PI d (s2 m) L := by
  obtain ⟨ty, hI, hr0, hr1⟩ := start_inv m hm
  have hlo := hb.lo
  have hord := hb.ord
  by_cases h2 : newE (s1 m) 2 = 0
  · obtain ⟨hx, ht1⟩ := hb.t1 h2
    have hu1 := hb.u1
    rw [if_pos h2] at hu1
    have hg := hb.g.blk
    rw [hx] at hg
    refine ⟨⟨w.heap.size, u, v, dX a0 (some ⟨a1, 0, none⟩), dB b0 b1, dR (newF (z0 (m + 1)) 1) (newF (s1 m) 2)⟩, fun _ => 1, rfl, ⟨hg, hb.wo, hb.wr, fun i hi => ?_, fun i hi _ => ?_, hb.g.ne, fun i j hi hj hij a ha hb' => ?_, fun i j hi hj hij e => ?_, ⟨by simp only; omega, by simp only; omega, fun i hi a ha => ?_, fun i hi => ?_⟩, hb.bel⟩, ty, hI, fun i hi _ => ?_⟩
    · rcases two_lt hi with rfl | rfl
      · exact .inr (.inl ⟨rfl, a0, rfl, hb.t0⟩)
      · exact .inr (.inl ⟨rfl, a1, rfl, ht1⟩)
    · rcases two_lt hi with rfl | rfl
      · exact hb.u0
      · exact hu1
    · rcases two_lt hi with rfl | rfl
      · rcases two_lt hj with rfl | rfl
        · exact hij rfl
        · simp [dX] at ha hb'; omega
      · rcases two_lt hj with rfl | rfl
        · simp [dX] at ha hb'; omega
        · exact hij rfl
    · rcases two_lt hi with rfl | rfl
      · rcases two_lt hj with rfl | rfl
        · exact hij rfl
        · simp [dB] at e; omega
      · rcases two_lt hj with rfl | rfl
        · simp [dB] at e; omega
        · exact hij rfl
    · rcases two_lt hi with rfl | rfl
      · simp [dX] at ha; omega
      · simp [dX] at ha; omega
    · rcases two_lt hi with rfl | rfl
      · simp [dB]; omega
      · simp [dB]; omega
    · rcases two_lt hi with rfl | rfl
      · exact hr0
      · exact hr1 h2
  · have hx := hb.tn h2
    have hg := hb.g.blk
    rw [hx] at hg
    refine ⟨⟨w.heap.size, u, v, dX a0 none, dB b0 b1, dR (newF (z0 (m + 1)) 1) 0⟩, fun i => if i = 0 then 1 else 0, rfl, ⟨hg, hb.wo, hb.wr, fun i hi => ?_, fun i hi hl => ?_, hb.g.ne, fun i j hi hj hij a ha hb' => ?_, fun i j hi hj hij e => ?_, ⟨by simp only; omega, by simp only; omega, fun i hi a ha => ?_, fun i hi => ?_⟩, hb.bel⟩, ty, hI, fun i hi hl => ?_⟩
    · rcases two_lt hi with rfl | rfl
      · exact .inr (.inl ⟨rfl, a0, rfl, hb.t0⟩)
      · exact .inl ⟨rfl, rfl⟩
    · rcases two_lt hi with rfl | rfl
      · exact hb.u0
      · exact absurd rfl hl
    · rcases two_lt hi with rfl | rfl
      · rcases two_lt hj with rfl | rfl
        · exact hij rfl
        · simp [dX] at hb'
      · simp [dX] at ha
    · rcases two_lt hi with rfl | rfl
      · rcases two_lt hj with rfl | rfl
        · exact hij rfl
        · simp [dB] at e; omega
      · rcases two_lt hj with rfl | rfl
        · simp [dB] at e; omega
        · exact hij rfl
    · rcases two_lt hi with rfl | rfl
      · simp [dX] at ha; omega
      · simp [dX] at ha
    · rcases two_lt hi with rfl | rfl
      · simp [dB]; omega
      · simp [dB]; omega
    · rcases two_lt hi with rfl | rfl
      · exact hr0
      · simp at hl
end Go.Proofs.YtpfmmlbakbhklaaGreatDoor
