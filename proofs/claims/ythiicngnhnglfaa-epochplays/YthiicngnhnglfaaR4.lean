/- What Retire of the document's answer returns and leaves, for every epochs that lie in memory and every number: the same functions as the program's. No conditions beyond what Ok says. -/
import Derived.Test.YthiicngnhnglfaaR3
namespace Go.Proofs.Ythiicngnhnglfaa
open Go.RowKit

theorem ins_split {f a : Nat} : ∀ {L : Ws} {j : Nat}, j ≤ L.length → (∀ t, t < j → (L.getD t (0, 0)).1 < f) → (j < L.length → ¬ (L.getD j (0, 0)).1 < f) → ins f a L = L.take j ++ (f, a) :: L.drop j
  | [], j, hj, _, _ => by
    obtain rfl : j = 0 := by simpa using hj
    rfl
  | p :: r, 0, _, _, h => by
    have := h (by simp)
    unfold ins
    rw [if_neg (by simpa using this)]
    rfl
  | p :: r, j + 1, hj, h1, h2 => by
    have h0 := h1 0 (by omega)
    have ih := ins_split (f := f) (a := a) (L := r) (j := j) (by simpa using hj) (fun t ht => by have := h1 (t + 1) (by omega); simpa [List.getD] using this) (fun hlt => by have := h2 (by simpa using hlt); simpa [List.getD] using this)
    unfold ins
    rw [if_pos (by simpa [List.getD] using h0), ih]
    rfl
theorem hasW_split {f : Nat} {L : Ws} (hU : Up L) {j : Nat} (h1 : ∀ t, t < j → (L.getD t (0, 0)).1 < f) (h2 : j < L.length → ¬ (L.getD j (0, 0)).1 < f) : hasW f L = true ↔ j < L.length ∧ (L.getD j (0, 0)).1 = f := by
  constructor
  · intro h
    obtain ⟨a, ha⟩ := hasW_iff.1 h
    obtain ⟨t, ht, e⟩ := List.getElem_of_mem ha
    have et : L.getD t (0, 0) = (f, a) := by simp [List.getD, ht, e]
    by_cases htj : t < j
    · have := h1 t htj; rw [et] at this; simp at this
    · by_cases e2 : t = j
      · subst e2; exact ⟨ht, by rw [et]⟩
      · have hj : j < L.length := by omega
        have hp := List.pairwise_iff_getElem.1 hU j t hj ht (by omega)
        have ej : L.getD j (0, 0) = L[j] := by simp [List.getD, hj]
        have := h2 hj
        rw [ej] at this
        rw [e] at hp
        exact absurd hp this
  · rintro ⟨hj, e⟩
    have ej : L.getD j (0, 0) = L[j] := by simp [List.getD, hj]
    refine hasW_iff.2 ⟨L[j].2, ?_⟩
    have : (f, L[j].2) = L[j] := by rw [← e, ej]
    rw [this]
    exact List.getElem_mem hj
theorem wc_drop (L : Ws) (j d : Nat) (u : Value) (h : (wc (L.drop j))[d]? = some u) (hj : j ≤ L.length) : (wc L)[j * 2 + d]? = some u := by
  have e : wc L = wc (L.take j) ++ wc (L.drop j) := by rw [← wc_append, List.take_append_drop]
  have hl : (wc (L.take j)).length = j * 2 := by rw [wc_length, List.length_take]; congr 1; omega
  rw [e, List.getElem?_append_right (by omega), hl]
  simpa using h
/-- The cells behind the j-th. -/
theorem lw_tail {w w' : World} {g cap j : Nat} {L : Ws} (h : LW w (.slice (some ⟨g, 0, none⟩) L.length cap) L) (k : Below w.heap.size w w') (hj : j ≤ L.length) : ∀ d u, (wc (L.drop j))[d]? = some u → w'.cell? ((⟨g, j * 2, none⟩ : Addr).add d) = some u := by
  intro d u hu
  have hw := wc_drop L j d u hu hj
  have hc := h.cells (g := g) rfl (j * 2 + d) u hw
  have e1 : ((⟨g, 0, none⟩ : Addr).add (j * 2 + d)) = ⟨g, j * 2 + d, none⟩ := by
    generalize j * 2 + d = y
    by_cases h : y = 0 <;> simp [Addr.add, h]
  have e2 : ((⟨g, j * 2, none⟩ : Addr).add d) = ⟨g, j * 2 + d, none⟩ := by by_cases h : d = 0 <;> simp [Addr.add, h]
  rw [e1] at hc
  rw [e2, ← hc]
  exact k.cell (p := ⟨g, j * 2 + d, none⟩) (World.block_lt_of_cell? w ⟨g, j * 2 + d, none⟩ hc)
set_option maxHeartbeats 400000 in
theorem rretire_neg {w : World} {p : Nat} (f : Int) (hf : f < 0) :
    Calls Try.prog 15 #[.pointer (some ⟨p, 0, none⟩), .int .i64 f] w fun e w' => e = .returned (.int .i64 1) ∧ w' = w := by
  go_enter Try.func15, Try.ntmps15
  go_wp2
  go_ret
  exact ⟨rfl, rfl⟩
set_option maxRecDepth 100000 in
set_option maxHeartbeats 4000000 in
theorem rretire_some {w : World} {p b B : Nat} {s : Ep} (h : IsR w p b s) (k : Ok B s) (hB : B ≤ 1000000) (f : Nat) (hf : f < 9223372036854775808) (g cap : Nat) (hv : w.cell? ⟨p, 2, none⟩ = some (.slice (some ⟨g, 0, none⟩) s.L.length cap)) (hcap : s.L.length ≤ cap) :
    Calls Try.prog 15 #[.pointer (some ⟨p, 0, none⟩), .int .i64 f] w fun e w' => e = .returned (.int .i64 (retE s f)) ∧ IsR w' p b (retS s f) ∧ Bt p b b w w' := by
  obtain ⟨i1, hj0, hy0, hy1, hy2⟩ := info_parts info57
  obtain ⟨c, v, hcn, -, hc, hL, -, -⟩ := h.heads
  obtain rfl : v = .slice (some ⟨g, 0, none⟩) s.L.length cap := by rw [hc] at hv; exact Option.some.inj hv
  have HP := hid h.lt.1
  have HE := hid h
  have HL := hid hL
  have hlen := k.len
  have HUp := hid k.up
  have HRet := hid (fun (j : Nat) (hj : j ≤ s.L.length) (h1 : ∀ t, t < j → (s.L.getD t (0, 0)).1 < f) (h2 : j < s.L.length → ¬ (s.L.getD j (0, 0)).1 < f) => (⟨ins_split (a := s.n) hj h1 h2, hasW_split k.up h1 h2⟩ : _ ∧ _))
  have h0f : ¬ (f : Int) < 0 := by omega
  have HrE : Hid (retE s f = if hasW f s.L = true then 5 else 0) := by unfold retE; rw [if_neg h0f, Int.toNat_natCast]; exact rfl
  have HrS : Hid (hasW f s.L = false → retS s f = ⟨s.n, s.P, ins f s.n s.L⟩) := by
    intro hW
    have he : retE s f = 0 := by rw [HrE.out, hW]; rfl
    unfold retS; rw [if_pos he, Int.toNat_natCast]
  have HrN : Hid (hasW f s.L = true → retS s f = s) := by
    intro hW
    have he : retE s f = 5 := by rw [HrE.out, hW]; rfl
    unfold retS; rw [if_neg (by rw [he]; decide)]
  have HCl := hid (fun (W : World) (hW : Below w.heap.size w W) (j : Nat) (hj : j < s.L.length) => by
    obtain ⟨q', c', hqe, hq⟩ := lw_cells hL hW
    obtain ⟨e1, -, e2⟩ := Value.slice.inj hqe
    obtain ⟨g', e3, _, hcl⟩ := hq (by intro e; rw [e] at hj; simp at hj)
    rw [← e1] at e3
    obtain rfl : g = g' := by simpa using e3
    exact hcl j hj)
  have HTl := hid (fun (W : World) (hW : Below w.heap.size w W) (j : Nat) (hj : j ≤ s.L.length) => lw_tail hL hW hj)
  have HTk : Hid (∀ j, j < s.L.length → s.L.take (j + 1) = s.L.take j ++ [s.L.getD j (0, 0)]) := by
    intro j hj
    rw [List.take_succ_eq_append_getElem hj]
    simp [List.getD, hj]
  clear hv hL k h
  generalize s.L = L at *
  generalize hsn : s.n = N at *
  have HsN := hid hsn
  generalize hn : L.length = n at *
  have HN := hid hn
  clear hn hsn
  go_enter Try.func15, Try.ntmps15
  go_wp2
  go_loopw [5, 6] (fun o i wx => ∃ j : Nat, j ≤ n ∧ i = .int .i64 j ∧ (∀ t, t < j → (L.getD t (0, 0)).1 < f) ∧ wx.ownsRow w.heap.size 57 2 o j (wc (L.take j)) ∧ Below w.heap.size w wx) (fun _ i _ => n - (intOf i).toNat)
  case atStart => exact ⟨0, Nat.zero_le _, rfl, fun t ht => absurd ht (Nat.not_lt_zero _), ⟨rfl, .inl ⟨rfl, rfl⟩⟩, Below.refl _ _⟩
  case round =>
    obtain ⟨j, hj, rfl, hup, hrow, hBx⟩ := hrel
    have HB := hid hBx
    have HU := hid hup
    have q2 := (hBx.cell (p := ⟨p, 2, none⟩) HP.out).trans hc
    have q0 := (hBx.cell (p := ⟨p, 0, none⟩) HP.out).trans hcn
    have hwj : IntKind.i64.wrap (j : Int) = (j : Int) := i64w (by omega) (by omega)
    clear hBx hup
    by_cases hlt : j < n
    · obtain ⟨d0, d1⟩ := HCl.out wr HB.out j hlt
      have htk := HTk.out j hlt
      have HRt := hid (HRet.out j hj HU.out)
      by_cases hlf : (L.getD j (0, 0)).1 < f
      · have HU2 : Hid (∀ t, t < j + 1 → (L.getD t (0, 0)).1 < f) := by
          intro t ht
          by_cases e : t = j
          · rw [e]; exact hlf
          · exact HU.out t (by omega)
        have hw : IntKind.i64.wrap ((j : Int) + 1) = (j : Int) + 1 := i64w (by omega) (by omega)
        have HRw := hid hrow
        have HTj := hid htk
        clear htk HRt
        generalize L.getD j (0, 0) = x at d0 d1 hlf HTj
        obtain ⟨x1, x2⟩ := x
        dsimp only at d0 d1 hlf
        have hlf' : (x1 : Int) < (f : Int) := by omega
        clear hlf
        go_wp2_with (first
          | (at_builtin; refine wpList_append_own _ rfl _ _ 40 rfl w.heap.size 57 i1 (.agg #[.int .i64 0, .int .i64 0]) 2 16 Try.underlying40 hj0 hy0 hy1 hy2 rfl (by decide) _ _ _ rfl (hrow.alloc _) ⟨wr.heap.size, 0, none⟩ 1 1 [.int .i64 (x1 : Nat), .int .i64 (x2 : Nat)] rfl rfl (cell_two_new _ _ _ _) (by intro u hu; simp at hu; rcases hu with rfl | rfl <;> rfl) (by unfold maxLen; omega) (by omega) (by have := HB.out.size; simp; omega) ?_; intro v' w3 hown hg3 hnil; go_frame)
          | go_in)
        go_roundw
        case rel =>
          refine ⟨j + 1, by omega, by go_num, HU2.out, ?_, (HB.out.alloc HB.out.size _).grown hg3 (by have := HB.out.size; simp; omega) (fun y hy => (HRw.out.lt y hy).1)⟩
          rw [HTj.out, ← wc_snoc]
          exact hown
        case measure => simp [intOf]; omega
      · obtain ⟨hins, hhas⟩ := HRt.out (fun _ => hlf)
        by_cases hfe : (L.getD j (0, 0)).1 = f
        · have hW : hasW f L = true := hhas.2 ⟨hlt, hfe⟩
          have HW := hid hW
          rw [hfe] at d0
          have hlf' : ¬ (f : Int) < (f : Int) := by omega
          clear hlf htk hins hhas hW HRt hrow hfe
          generalize (L.getD j (0, 0)).2 = x2 at *
          go_wp2
          go_ret
          rw [HrE.out, HrN.out HW.out, HW.out, if_pos rfl]
          exact ⟨rfl, HE.out.below HB.out, Bt.of_below HB.out⟩
        · have hW : hasW f L = false := by
            cases hc : hasW f L
            · rfl
            · exact absurd (hhas.1 hc).2 hfe
          have HW := hid hW
          have HIns := hid hins
          have HRw := hid hrow
          have hlf' : ¬ (((L.getD j (0, 0)).1 : Nat) : Int) < (f : Int) := by omega
          have hfe' : ((((L.getD j (0, 0)).1 : Nat) : Int) == (f : Int)) = false := beq_eq_false_iff_ne.2 (by omega)
          clear hlf htk hins hhas hW HRt hfe
          generalize (L.getD j (0, 0)).1 = x1 at *
          generalize (L.getD j (0, 0)).2 = x2 at *
          have HDl : Hid ((wc (L.drop j)).length = (n - j) * 2) := by rw [wc_length, List.length_drop, HN.out]; exact rfl
          have HTj : Hid (∀ W, Below w.heap.size w W → ∀ d u, (wc (L.drop j))[d]? = some u → W.cell? ((⟨g, j * 2, none⟩ : Addr).add d) = some u) := fun W hW => HTl.out W hW j hj
          have HFz := hid (fun (W : World) (hW : Below w.heap.size w W) => (by obtain ⟨_, _, -, -, -, -, -, h⟩ := (HE.out.below hW).heads; exact h : W.frozen? ⟨p, 2, none⟩ = false))
          have tok1 : True := trivial
          have tok2 : True := trivial
          go_wp2_with (first
            | (at_builtin; have _t := tok1; refine wpList_append_own _ rfl _ _ 40 rfl w.heap.size 57 i1 (.agg #[.int .i64 0, .int .i64 0]) 2 16 Try.underlying40 hj0 hy0 hy1 hy2 rfl (by decide) _ _ _ rfl (hrow.alloc _) ⟨wr.heap.size, 0, none⟩ 1 1 [.int .i64 (f : Nat), .int .i64 (N : Nat)] rfl rfl (cell_two_new _ _ _ _) (by intro u hu; simp at hu; rcases hu with rfl | rfl <;> rfl) (by unfold maxLen; omega) (by omega) (by have := HB.out.size; simp; omega) ?_; intro v1 w3 hown1 hg3 hnil; clear tok1
               have HB3 := hid ((HB.out.alloc HB.out.size _).grown hg3 (by have := HB.out.size; simp; omega) (fun y hy => (HRw.out.lt y hy).1))
               have q23 := (HB3.out.cell (p := ⟨p, 2, none⟩) HP.out).trans hc)
            | (at_builtin; have _t := tok2; refine wpList_append_own _ rfl _ _ 40 rfl w.heap.size 57 i1 (.agg #[.int .i64 0, .int .i64 0]) 2 16 Try.underlying40 hj0 hy0 hy1 hy2 rfl (by decide) _ _ _ rfl hown1 ⟨g, j * 2, none⟩ (n - j) (cap - j) (wc (L.drop j)) rfl HDl.out (HTj.out _ HB3.out) (wc_one _) (by unfold maxLen; omega) (by omega) HB3.out.size ?_; intro v2 w4 hown2 hg4 hnil4; clear tok2
               have HB4 := hid (HB3.out.grown hg4 HB3.out.size (fun y hy => (hown1.lt y hy).1))
               have q24 := (HB4.out.cell (p := ⟨p, 2, none⟩) HP.out).trans hc
               have f24 := HFz.out _ HB4.out
               have HO4 := hid hown2
               obtain ⟨gv, cv, rfl⟩ : ∃ gv cv, v2 = .slice (some ⟨gv, 0, none⟩) (j + 1 + (n - j)) cv := by
                 rcases hown2.2 with ⟨_, h0⟩ | ⟨g, cap, cur, e, _⟩
                 · omega
                 · exact ⟨g, cap, e⟩
               clear hown1 hown2)
            | go_in)
          go_ret
          have hlw : LW w4 (.slice (some ⟨gv, 0, none⟩) (j + 1 + (n - j)) cv) (ins f N L) := by
            have h4 := HO4.out.mono (Nat.zero_le w.heap.size)
            have e1 : (ins f N L).length = j + 1 + (n - j) := by rw [ins_length, HN.out]; omega
            have e2 : wc (ins f N L) = (wc (L.take j) ++ [.int .i64 (f : Nat), .int .i64 (N : Nat)]) ++ wc (L.drop j) := by rw [HIns.out, wc_append, wc_cons]; simp
            unfold LW
            rw [e1, e2]
            exact h4
          rw [HrE.out, HrS.out HW.out, HW.out, if_neg (by decide)]
          have hfin := (HE.out.below HB4.out).setL hlw
          rw [HsN.out] at hfin
          exact ⟨rfl, hfin, (Bt.of_below HB4.out).trans (Bt.setHead _ _ _)⟩
    · obtain rfl : j = n := by omega
      obtain ⟨hins, hhas⟩ := HRet.out j hj HU.out (fun h => absurd h (Nat.lt_irrefl _))
      have hW : hasW f L = false := by
        cases hc : hasW f L
        · rfl
        · exact absurd (hhas.1 hc).1 (Nat.lt_irrefl _)
      have HW := hid hW
      have HIns := hid hins
      have HRw := hid hrow
      clear hins hhas hW hlt
      by_cases hcj : cap = j
      · have hcj2 : j = cap := hcj.symm
        subst hcj2
        clear hcj
        have HDl : Hid ((wc (L.drop j)).length = 0 * 2) := by rw [wc_length, List.length_drop, HN.out, Nat.sub_self]; exact rfl
        have HFz := hid (fun (W : World) (hW : Below w.heap.size w W) => (by obtain ⟨_, _, -, -, -, -, -, h⟩ := (HE.out.below hW).heads; exact h : W.frozen? ⟨p, 2, none⟩ = false))
        have tok1 : True := trivial
        have tok2 : True := trivial
        go_wp2_with (first
          | (at_builtin; have _t := tok1; refine wpList_append_own _ rfl _ _ 40 rfl w.heap.size 57 i1 (.agg #[.int .i64 0, .int .i64 0]) 2 16 Try.underlying40 hj0 hy0 hy1 hy2 rfl (by decide) _ _ _ rfl (hrow.alloc _) ⟨wr.heap.size, 0, none⟩ 1 1 [.int .i64 (f : Nat), .int .i64 (N : Nat)] rfl rfl (cell_two_new _ _ _ _) (by intro u hu; simp at hu; rcases hu with rfl | rfl <;> rfl) (by unfold maxLen; omega) (by omega) (by have := HB.out.size; simp; omega) ?_; intro v1 w3 hown1 hg3 hnil; clear tok1
             have HB3 := hid ((HB.out.alloc HB.out.size _).grown hg3 (by have := HB.out.size; simp; omega) (fun y hy => (HRw.out.lt y hy).1))
             have q23 := (HB3.out.cell (p := ⟨p, 2, none⟩) HP.out).trans hc)
          | (at_builtin; have _t := tok2; refine wpList_append_own _ rfl _ _ 40 rfl w.heap.size 57 i1 (.agg #[.int .i64 0, .int .i64 0]) 2 16 Try.underlying40 hj0 hy0 hy1 hy2 rfl (by decide) _ _ _ rfl hown1 ⟨g, 0, none⟩ 0 0 (wc (L.drop j)) rfl HDl.out (fun d u h => by rw [List.getElem?_eq_none (by rw [HDl.out]; omega)] at h; cases h) (wc_one _) (by unfold maxLen; omega) (by omega) HB3.out.size ?_; intro v2 w4 hown2 hg4 hnil4; clear tok2
             have HB4 := hid (HB3.out.grown hg4 HB3.out.size (fun y hy => (hown1.lt y hy).1))
             have q24 := (HB4.out.cell (p := ⟨p, 2, none⟩) HP.out).trans hc
             have f24 := HFz.out _ HB4.out
             have HO4 := hid hown2
             obtain ⟨gv, cv, rfl⟩ : ∃ gv cv, v2 = .slice (some ⟨gv, 0, none⟩) (j + 1 + 0) cv := by
               rcases hown2.2 with ⟨_, h0⟩ | ⟨g, cap, cur, e, _⟩
               · omega
               · exact ⟨g, cap, e⟩
             clear hown1 hown2)
          | go_in)
        go_ret
        have hlw : LW w4 (.slice (some ⟨gv, 0, none⟩) (j + 1) cv) (ins f N L) := by
          have h4 := HO4.out.mono (Nat.zero_le w.heap.size)
          have e1 : (ins f N L).length = j + 1 := by rw [ins_length, HN.out]
          have e2 : wc (ins f N L) = (wc (L.take j) ++ [.int .i64 (f : Nat), .int .i64 (N : Nat)]) ++ wc (L.drop j) := by rw [HIns.out, wc_append, wc_cons]; simp
          unfold LW
          rw [e1, e2]
          exact h4
        rw [HrE.out, HrS.out HW.out, HW.out, if_neg (by decide)]
        have hfin := (HE.out.below HB4.out).setL hlw
        rw [HsN.out] at hfin
        exact ⟨rfl, hfin, (Bt.of_below HB4.out).trans (Bt.setHead _ _ _)⟩
      · have hcj' : ¬ j = cap := fun e => hcj e.symm
        have HDl : Hid ((wc (L.drop j)).length = 0 * 2) := by rw [wc_length, List.length_drop, HN.out, Nat.sub_self]; exact rfl
        have HFz := hid (fun (W : World) (hW : Below w.heap.size w W) => (by obtain ⟨_, _, -, -, -, -, -, h⟩ := (HE.out.below hW).heads; exact h : W.frozen? ⟨p, 2, none⟩ = false))
        have tok1 : True := trivial
        have tok2 : True := trivial
        go_wp2_with (first
          | (at_builtin; have _t := tok1; refine wpList_append_own _ rfl _ _ 40 rfl w.heap.size 57 i1 (.agg #[.int .i64 0, .int .i64 0]) 2 16 Try.underlying40 hj0 hy0 hy1 hy2 rfl (by decide) _ _ _ rfl (hrow.alloc _) ⟨wr.heap.size, 0, none⟩ 1 1 [.int .i64 (f : Nat), .int .i64 (N : Nat)] rfl rfl (cell_two_new _ _ _ _) (by intro u hu; simp at hu; rcases hu with rfl | rfl <;> rfl) (by unfold maxLen; omega) (by omega) (by have := HB.out.size; simp; omega) ?_; intro v1 w3 hown1 hg3 hnil; clear tok1
             have HB3 := hid ((HB.out.alloc HB.out.size _).grown hg3 (by have := HB.out.size; simp; omega) (fun y hy => (HRw.out.lt y hy).1))
             have q23 := (HB3.out.cell (p := ⟨p, 2, none⟩) HP.out).trans hc)
          | (at_builtin; have _t := tok2; refine wpList_append_own _ rfl _ _ 40 rfl w.heap.size 57 i1 (.agg #[.int .i64 0, .int .i64 0]) 2 16 Try.underlying40 hj0 hy0 hy1 hy2 rfl (by decide) _ _ _ rfl hown1 ⟨g, j * 2, none⟩ 0 (cap - j) (wc (L.drop j)) rfl HDl.out (fun d u h => by rw [List.getElem?_eq_none (by rw [HDl.out]; omega)] at h; cases h) (wc_one _) (by unfold maxLen; omega) (by omega) HB3.out.size ?_; intro v2 w4 hown2 hg4 hnil4; clear tok2
             have HB4 := hid (HB3.out.grown hg4 HB3.out.size (fun y hy => (hown1.lt y hy).1))
             have q24 := (HB4.out.cell (p := ⟨p, 2, none⟩) HP.out).trans hc
             have f24 := HFz.out _ HB4.out
             have HO4 := hid hown2
             obtain ⟨gv, cv, rfl⟩ : ∃ gv cv, v2 = .slice (some ⟨gv, 0, none⟩) (j + 1 + 0) cv := by
               rcases hown2.2 with ⟨_, h0⟩ | ⟨g, cap, cur, e, _⟩
               · omega
               · exact ⟨g, cap, e⟩
             clear hown1 hown2)
          | go_in)
        go_ret
        have hlw : LW w4 (.slice (some ⟨gv, 0, none⟩) (j + 1) cv) (ins f N L) := by
          have h4 := HO4.out.mono (Nat.zero_le w.heap.size)
          have e1 : (ins f N L).length = j + 1 := by rw [ins_length, HN.out]
          have e2 : wc (ins f N L) = (wc (L.take j) ++ [.int .i64 (f : Nat), .int .i64 (N : Nat)]) ++ wc (L.drop j) := by rw [HIns.out, wc_append, wc_cons]; simp
          unfold LW
          rw [e1, e2]
          exact h4
        rw [HrE.out, HrS.out HW.out, HW.out, if_neg (by decide)]
        have hfin := (HE.out.below HB4.out).setL hlw
        rw [HsN.out] at hfin
        exact ⟨rfl, hfin, (Bt.of_below HB4.out).trans (Bt.setHead _ _ _)⟩
end Go.Proofs.Ythiicngnhnglfaa
