/- What Retire of the document's answer returns and leaves where nothing waits, and in all. No conditions beyond what Ok says. -/
import Derived.Test.YthiicngnhnglfaaR4
import Derived.Deep.AppendSrc
namespace Go.Proofs.Ythiicngnhnglfaa
open Go.RowKit

set_option maxRecDepth 100000 in
set_option maxHeartbeats 4000000 in
theorem rretire_none {w : World} {p b : Nat} {s : Ep} (h : IsR w p b s) (f : Nat) (hv : w.cell? ⟨p, 2, none⟩ = some (.slice none 0 0)) (hs : s.L = []) :
    Calls Try.prog 15 #[.pointer (some ⟨p, 0, none⟩), .int .i64 f] w fun e w' => e = .returned (.int .i64 (retE s f)) ∧ IsR w' p b (retS s f) ∧ Bt p b b w w' := by
  obtain ⟨i1, hj0, hy0, hy1, hy2⟩ := info_parts info57
  obtain ⟨c, v, hcn, -, -, -, -, hfz⟩ := h.heads
  have HP := hid h.lt.1
  have HE := hid h
  have h0f : ¬ (f : Int) < 0 := by omega
  have HrE : Hid (retE s f = 0) := by
    unfold retE
    rw [if_neg h0f, Int.toNat_natCast, hs]
    exact rfl
  have HrS : Hid (retS s f = ⟨s.n, s.P, [(f, s.n)]⟩) := by
    unfold retS
    rw [if_pos HrE.out, Int.toNat_natCast, hs]
    exact rfl
  have hap : ∀ (W : World) (gv cv : Nat), 1 ≤ cv → ∀ ty, (Builtin.append_ #[40, 40] ty #[.slice (some ⟨gv, 0, none⟩) 1 cv, .slice none 0 0]).run Try.prog W = .ok (.slice (some ⟨gv, 0, none⟩) 1 cv) W := by
    intro W gv cv h1 ty
    have := run_append_room_src (P := Try.prog) W 40 40 ty 57 i1 Try.underlying40 hj0 gv 0 1 cv (.slice none 0 0) 0 [] (Src.ofNil (P := Try.prog) W (size := i1.size) Try.underlying40 0) (by omega) (fun j hj => absurd hj (by simp)) (fun j hj => absurd hj (by simp))
    have h0 : ∀ o, W.setCells gv o [] = W := fun o => by first | rfl | simp [World.setCells]
    simpa [h0] using this
  clear h
  generalize hsn : s.n = N at *
  have HsN := hid hsn
  clear hsn hs
  have HFz : Hid (∀ W, Below w.heap.size w W → W.cell? ⟨p, 2, none⟩ = some (.slice none 0 0) ∧ W.frozen? ⟨p, 2, none⟩ = false) := fun W hW => ⟨(hW.cell (p := ⟨p, 2, none⟩) HP.out).trans hv, by obtain ⟨_, _, -, -, -, -, -, h⟩ := (HE.out.below hW).heads; exact h⟩
  have hrow : w.ownsRow w.heap.size 57 2 (.slice none 0 0) 0 [] := ⟨rfl, .inl ⟨rfl, rfl⟩⟩
  have HRw := hid hrow
  have HAp := hid hap
  clear hap
  go_enter Try.func15, Try.ntmps15
  go_wp2
  refine wp_loop_rounds 1 ?_
  rw [rounds_succ]
  go_wp2_with (first
    | (at_builtin; refine wpList_append_own _ rfl _ _ 40 rfl w.heap.size 57 i1 (.agg #[.int .i64 0, .int .i64 0]) 2 16 Try.underlying40 hj0 hy0 hy1 hy2 rfl (by decide) _ _ _ rfl (hrow.alloc _) ⟨w.heap.size, 0, none⟩ 1 1 [.int .i64 (f : Nat), .int .i64 (N : Nat)] rfl rfl (cell_two_new _ _ _ _) (by intro u hu; simp at hu; rcases hu with rfl | rfl <;> rfl) (by unfold maxLen; omega) (by omega) (by simp) ?_; intro v1 w3 hown1 hg3 hnil
       have HB3 := hid (((Below.refl w.heap.size w).alloc (Nat.le_refl _) _).grown hg3 (by simp) (fun y hy => (HRw.out.lt y hy).1))
       obtain ⟨q23, f23⟩ := HFz.out _ HB3.out
       have HO3 := hid hown1
       obtain ⟨gv, cv, hc1, rfl⟩ : ∃ gv cv, 1 ≤ cv ∧ v1 = .slice (some ⟨gv, 0, none⟩) 1 cv := by
         rcases hown1.2 with ⟨_, h0⟩ | ⟨g, cap, cur, e, _, _, hle, _⟩
         · omega
         · exact ⟨g, cap, by omega, e⟩
       have hap2 := HAp.out w3 gv cv hc1
       clear hown1 hrow)
    | go_in)
  go_ret
  have hlw : LW w3 (.slice (some ⟨gv, 0, none⟩) 1 cv) [(f, N)] := HO3.out.mono (Nat.zero_le w.heap.size)
  rw [HrE.out, HrS.out]
  have hfin := (HE.out.below HB3.out).setL hlw
  rw [HsN.out] at hfin
  exact ⟨rfl, hfin, (Bt.of_below HB3.out).trans (Bt.setHead _ _ _)⟩
theorem rretire_at {w : World} {p b B : Nat} {s : Ep} (h : IsR w p b s) (k : Ok B s) (hB : B ≤ 1000000) (f : Int) (hf : f < 9223372036854775808) :
    Calls Try.prog 15 #[.pointer (some ⟨p, 0, none⟩), .int .i64 f] w fun e w' => e = .returned (.int .i64 (retE s f)) ∧ IsR w' p b (retS s f) ∧ Bt p b b w w' := by
  by_cases h0 : f < 0
  · have he : retE s f = 1 := by unfold retE; rw [if_pos h0]
    have hs : retS s f = s := by unfold retS; rw [he, if_neg (by decide)]
    rw [he, hs]
    refine (rretire_neg f h0).mono ?_
    rintro e w' ⟨rfl, hw⟩
    rw [hw]
    exact ⟨rfl, h, Bt.refl _ _ _ _⟩
  · obtain ⟨i, rfl⟩ : ∃ i : Nat, f = i := ⟨f.toNat, by omega⟩
    obtain ⟨c, v, -, -, hc, hL, -, -⟩ := h.heads
    rcases hL.2 with ⟨rfl, h0⟩ | ⟨g, cap, cur, rfl, _, _, hle, _⟩
    · exact rretire_none h i hc (List.eq_nil_of_length_eq_zero h0)
    · exact rretire_some h k hB i (by omega) g cap hc hle
end Go.Proofs.Ythiicngnhnglfaa
