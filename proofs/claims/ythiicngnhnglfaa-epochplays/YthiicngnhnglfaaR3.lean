/- What Free of the document's answer returns and leaves, for every epochs that lie in memory: the same functions as the program's. No conditions beyond what Ok says. -/
import Derived.Test.YthiicngnhnglfaaR2
import Derived.Deep.Onto
namespace Go.Proofs.Ythiicngnhnglfaa
open Go.RowKit

theorem tl_snoc (last : Int) (L : Ws) (j : Nat) (hj : j < L.length) : tl last (L.take (j + 1)) = if ((L.getD j (0, 0)).2 : Int) ≤ last then tl last (L.take j) ++ [(L.getD j (0, 0)).1] else tl last (L.take j) := by
  unfold tl
  rw [List.take_succ_eq_append_getElem hj, List.filter_append, List.map_append]
  have e : L.getD j (0, 0) = L[j] := by simp [List.getD, hj]
  rw [e]
  by_cases h : (L[j].2 : Int) ≤ last
  · rw [if_pos h]; simp [h]
  · rw [if_neg h]; simp [h]
theorem lv_snoc (last : Int) (L : Ws) (j : Nat) (hj : j < L.length) : lv last (L.take (j + 1)) = if ((L.getD j (0, 0)).2 : Int) ≤ last then lv last (L.take j) else lv last (L.take j) ++ [L.getD j (0, 0)] := by
  unfold lv
  rw [List.take_succ_eq_append_getElem hj, List.filter_append]
  have e : L.getD j (0, 0) = L[j] := by simp [List.getD, hj]
  rw [e]
  by_cases h : (L[j].2 : Int) ≤ last
  · rw [if_pos h]; simp [h]
  · rw [if_neg h]; simp [h]
/-- Two lists of different kinds lie in two blocks. -/
theorem own_apart {w : World} {a a' : Nat} {e e' : TypeId} {z z' n n' : Nat} {v v' : Value} {xs xs' : List Value} (h : w.ownsRow a e z v n xs) (k : w.ownsRow a' e' z' v' n' xs') (he : e ≠ e') : v.ownBlock = none ∨ v.ownBlock ≠ v'.ownBlock := by
  rcases h.2 with ⟨rfl, _⟩ | ⟨g, cap, cur, rfl, _, hb, _⟩
  · exact .inl rfl
  · right
    rcases k.2 with ⟨rfl, _⟩ | ⟨g', cap', cur', rfl, _, hb', _⟩
    · simp [Value.ownBlock]
    · intro q
      simp only [Value.ownBlock, Option.some.injEq] at q
      subst q
      rw [hb] at hb'
      simp only [Option.some.injEq, Obj.cells.injEq] at hb'
      exact he hb'.2.1
theorem own_below {w w' : World} {a : Nat} {e : TypeId} {z n : Nat} {v : Value} {xs : List Value} (h : w.ownsRow a e z v n xs) (k : Below w.heap.size w w') : w'.ownsRow a e z v n xs := by
  refine ⟨h.1, ?_⟩
  rcases h.2 with h2 | ⟨g, cap, cur, h3, h4, hb, h5⟩
  · exact .inl h2
  · exact .inr ⟨g, cap, cur, h3, h4, stay k hb, h5⟩
theorem cell_two_new (w : World) (x y : Value) (t : TypeId) : ∀ j u, [x, y][j]? = some u → (w.alloc (.cells #[x, y] t)).cell? ((⟨w.heap.size, 0, none⟩ : Addr).add j) = some u := by
  intro j u hu
  have hb := heap_alloc_new w (.cells #[x, y] t)
  have ha : ((⟨w.heap.size, 0, none⟩ : Addr).add j) = ⟨w.heap.size, j, none⟩ := by by_cases h : j = 0 <;> simp [Addr.add, h]
  rw [ha]
  exact cell_of hb (by simpa using hu)
theorem wc_snoc (L : Ws) (x : Nat × Nat) : wc L ++ [.int .i64 (x.1 : Nat), .int .i64 (x.2 : Nat)] = wc (L ++ [x]) := by rw [wc_append]; rfl
set_option maxRecDepth 100000 in
set_option maxHeartbeats 4000000 in
theorem rfree_at {w : World} {p b B : Nat} {s : Ep} (h : IsR w p b s) (k : Ok B s) (hB : B ≤ 1000000) :
    Calls Try.prog 20 #[.pointer (some ⟨p, 0, none⟩)] w fun e w' => ∃ v, e = .returned v ∧ w'.ownsRow w.heap.size 3 1 v (frL s).length (ints (frL s)) ∧ IsR w' p b (frS s) ∧ Bt p b b w w' := by
  obtain ⟨i0, hi, hz0, hz1, hz2⟩ := info_parts info3
  obtain ⟨i1, hj0, hy0, hy1, hy2⟩ := info_parts info57
  obtain ⟨c, v, hcn, -, hc, hL, -, -⟩ := h.heads
  have HP := hid h.lt.1
  have HE := hid h
  have HL := hid hL
  have hlen := k.len
  have htop := k.top
  have HSn := hid k.since
  obtain ⟨q, cv, rfl, -⟩ := lw_cells hL (Below.refl _ _)
  have HF1 : Hid (frL s = tl ((s.n : Int) - 2) s.L) := rfl
  have HF2 : Hid (frS s = ⟨s.n, s.P, lv ((s.n : Int) - 2) s.L⟩) := rfl
  generalize hsl : s.L = L at *
  have HsL := hid hsl
  generalize hsn : s.n = N at *
  have HsN := hid hsn
  clear h hL k hsl hsn
  have HT1 := hid (fun j (hj : j < L.length) => tl_snoc ((N : Int) - 2) L j hj)
  have HT2 := hid (fun j (hj : j < L.length) => lv_snoc ((N : Int) - 2) L j hj)
  have HLe1 : Hid (∀ j, (tl ((N : Int) - 2) (L.take j)).length ≤ j) := by
    intro j
    unfold tl
    rw [List.length_map]
    refine Nat.le_trans (List.length_filter_le _ _) ?_
    rw [List.length_take]; omega
  have HLe2 : Hid (∀ j, (lv ((N : Int) - 2) (L.take j)).length ≤ j) := by
    intro j
    unfold lv
    refine Nat.le_trans (List.length_filter_le _ _) ?_
    rw [List.length_take]; omega
  have HAt : Hid (∀ j, j < L.length → (L.getD j (0, 0)).2 ≤ N) := by
    intro j hj
    exact HSn.out _ (by simp [List.getD, hj])
  generalize hn : L.length = n at *
  have HN := hid hn
  clear hn
  go_enter Try.func20, Try.ntmps20
  go_wp2
  go_loopw [3, 4, 5] (fun o r i wx => ∃ j : Nat, j ≤ n ∧ i = .int .i64 j ∧ wx.ownsRow w.heap.size 3 1 o (tl ((N : Int) - 2) (L.take j)).length (ints (tl ((N : Int) - 2) (L.take j))) ∧ wx.ownsRow w.heap.size 57 2 r (lv ((N : Int) - 2) (L.take j)).length (wc (lv ((N : Int) - 2) (L.take j))) ∧ Below w.heap.size w wx) (fun _ _ i _ => n - (intOf i).toNat)
  case atStart => exact ⟨0, Nat.zero_le _, rfl, ⟨rfl, .inl ⟨rfl, rfl⟩⟩, ⟨rfl, .inl ⟨rfl, rfl⟩⟩, Below.refl _ _⟩
  case round =>
    obtain ⟨j, hj, rfl, hrow, hrst, hBx⟩ := hrel
    have HB := hid hBx
    have q2 := (hBx.cell (p := ⟨p, 2, none⟩) HP.out).trans hc
    have q0 := (hBx.cell (p := ⟨p, 0, none⟩) HP.out).trans hcn
    clear hBx
    by_cases hlt : j < n
    · obtain ⟨q', c', hqe, hq⟩ := lw_cells HL.out HB.out
      obtain ⟨rfl, -, rfl⟩ := Value.slice.inj hqe
      obtain ⟨g, rfl, hgl, hcl⟩ := hq (by intro e; have := HN.out; rw [e] at this; simp at this; omega)
      obtain ⟨d0, d1⟩ := hcl j (by rw [HN.out]; exact hlt)
      have h1 := HT1.out j hlt
      have h2 := HT2.out j hlt
      have h3 := HAt.out j hlt
      have HG := hid (fun W (hW : Below w.heap.size w W) => by
        obtain ⟨q', c', hqe, hq⟩ := lw_cells HL.out hW
        obtain ⟨e1, -, e2⟩ := Value.slice.inj hqe
        obtain ⟨g', e3, _, hcl⟩ := hq (by intro e; have := HN.out; rw [e] at this; simp at this; omega)
        rw [← e1] at e3
        obtain rfl : g = g' := by simpa using e3
        exact (⟨(hcl j (by rw [HN.out]; exact hlt)).1, (hcl j (by rw [HN.out]; exact hlt)).2, (hW.cell (p := ⟨p, 2, none⟩) HP.out).trans hc⟩ : W.cell? ⟨g, j * 2, none⟩ = some (.int .i64 ((L.getD j (0, 0)).1 : Nat)) ∧ W.cell? ⟨g, j * 2 + 1, none⟩ = some (.int .i64 ((L.getD j (0, 0)).2 : Nat)) ∧ W.cell? ⟨p, 2, none⟩ = some (.slice (some ⟨g, 0, none⟩) n cv)))
      generalize L.getD j (0, 0) = x at *
      obtain ⟨x1, x2⟩ := x
      dsimp only at d0 d1 h1 h2 h3 HG
      have HRw := hid hrow
      have HRs := hid hrst
      have hl1 := HLe1.out j
      have hl2 := HLe2.out j
      have hw : IntKind.i64.wrap ((j : Int) + 1) = (j : Int) + 1 := i64w (by omega) (by omega)
      have hwj : IntKind.i64.wrap (j : Int) = (j : Int) := i64w (by omega) (by omega)
      have hw2 : IntKind.i64.wrap ((x2 : Int) + 2) = (x2 : Int) + 2 := i64w (by omega) (by omega)
      clear hcl hq hqe hrow hrst
      by_cases hle : (x2 : Int) ≤ (N : Int) - 2
      · rw [if_pos hle] at h1 h2
        have H1 := hid h1
        have H2 := hid h2
        have hd : (x2 : Int) + 2 ≤ (N : Int) := by omega
        clear h1 h2 hle
        go_wp2_with fail
        go_quiet (fail)
        have hBq := below_drewN HB.out nq
        have HBq := hid hBq
        obtain ⟨d0', -, q2'⟩ := HG.out _ hBq
        have hrq := own_below HRw.out (below_drewN (Below.refl _ _) nq)
        have hsq := own_below HRs.out (below_drewN (Below.refl _ _) nq)
        clear d0 d1 q0 q2 hBq HRw HRs
        generalize wr.drewN nq = W at *
        have HRq := hid hrq
        have HSq := hid hsq
        clear hsq
        go_wp2_with (first
          | (at_builtin; refine wpList_append_own _ rfl _ _ 35 rfl w.heap.size 3 i0 (.int .i64 0) 1 8 Try.underlying35 hi hz0 hz1 hz2 rfl (by decide) _ _ _ rfl (hrq.alloc _) ⟨W.heap.size, 0, none⟩ 1 1 [.int .i64 (x1 : Nat)] rfl rfl (cell_one_new _ _ _) (by intro u hu; simp at hu; subst hu; rfl) (by unfold maxLen; omega) (by omega) (by have := HBq.out.size; simp; omega) ?_; intro v' w3 hown hg3 hnil; go_frame)
          | go_in)
        go_roundw
        case rel =>
          refine ⟨j + 1, by omega, by go_num, ?_, ?_, (HBq.out.alloc HBq.out.size _).grown hg3 (by have := HBq.out.size; simp; omega) (fun y hy => (HRq.out.lt y hy).1)⟩
          · rw [H1.out, ← ints_snoc, List.length_append]
            exact hown
          · rw [H2.out]
            exact (HSq.out.alloc _).kept hg3 (own_apart HSq.out HRq.out (by decide))
        case measure => simp [intOf]; omega
      · rw [if_neg hle] at h1 h2
        have H1 := hid h1
        have H2 := hid h2
        have hd : ¬ (x2 : Int) + 2 ≤ (N : Int) := by omega
        clear h1 h2 hle
        go_wp2_with fail
        go_quiet (fail)
        have hBq := below_drewN HB.out nq
        have HBq := hid hBq
        obtain ⟨d0', d1', q2'⟩ := HG.out _ hBq
        have hrq := own_below HRw.out (below_drewN (Below.refl _ _) nq)
        have hsq := own_below HRs.out (below_drewN (Below.refl _ _) nq)
        clear d0 d1 q0 q2 hBq HRw HRs
        generalize wr.drewN nq = W at *
        have HRq := hid hrq
        have HSq := hid hsq
        clear hrq
        go_wp2_with (first
          | (at_builtin; refine wpList_append_own _ rfl _ _ 40 rfl w.heap.size 57 i1 (.agg #[.int .i64 0, .int .i64 0]) 2 16 Try.underlying40 hj0 hy0 hy1 hy2 rfl (by decide) _ _ _ rfl (hsq.alloc _) ⟨W.heap.size, 0, none⟩ 1 1 [.int .i64 (x1 : Nat), .int .i64 (x2 : Nat)] rfl rfl (cell_two_new _ _ _ _) (by intro u hu; simp at hu; rcases hu with rfl | rfl <;> rfl) (by unfold maxLen; omega) (by omega) (by have := HBq.out.size; simp; omega) ?_; intro v' w3 hown hg3 hnil; go_frame)
          | go_in)
        go_roundw
        case rel =>
          refine ⟨j + 1, by omega, by go_num, ?_, ?_, (HBq.out.alloc HBq.out.size _).grown hg3 (by have := HBq.out.size; simp; omega) (fun y hy => (HSq.out.lt y hy).1)⟩
          · rw [H1.out]
            exact (HRq.out.alloc _).kept hg3 (own_apart HRq.out HSq.out (by decide))
          · rw [H2.out, ← wc_snoc, List.length_append]
            exact hown
        case measure => simp [intOf]; omega
    · obtain rfl : j = n := by omega
      have HR1 := hid hrow
      have HR2 := hid hrst
      clear hrow hrst
      obtain ⟨_, _, -, -, -, -, -, hfz⟩ := (HE.out.below HB.out).heads
      have hfull : List.take j L = L := by rw [← HN.out, List.take_length]
      rw [hfull] at HR1 HR2
      clear hfull
      have hv : u4 = .slice none 0 0 ∨ ∃ g cap, u4 = .slice (some ⟨g, 0, none⟩) (lv ((N : Int) - 2) L).length cap := by
        rcases HR2.out.2 with ⟨e, _⟩ | ⟨g, cap, cur, e, _⟩
        · exact .inl e
        · exact .inr ⟨g, cap, e⟩
      have HFin : Hid (∀ W : World, W = wr.setCell ⟨p, 2, none⟩ u4 → W.ownsRow w.heap.size 3 1 u3 (frL s).length (ints (frL s)) ∧ IsR W p b (frS s) ∧ Bt p b b w W) := by
        intro W hW
        have hE2 := (HE.out.below HB.out).setL (v := u4) (L := lv ((N : Int) - 2) L) (HR2.out.mono (Nat.zero_le _))
        have hO := HR1.out.kept (grown_set wr p 2 u4) (Or.inr (fun e => by have := (HR1.out.lt _ e).1; have := HP.out; omega))
        rw [HsN.out] at hE2
        rw [hW, HF1.out, HF2.out]
        exact ⟨hO, hE2, (Bt.of_below HB.out).trans (Bt.setHead _ _ _)⟩
      clear HR1 HR2
      rcases hv with rfl | ⟨g, cap, rfl⟩
      · go_wp2
        go_ret
        exact ⟨_, rfl, HFin.out _ rfl⟩
      · go_wp2
        go_ret
        exact ⟨_, rfl, HFin.out _ rfl⟩
end Go.Proofs.Ythiicngnhnglfaa
