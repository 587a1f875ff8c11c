/- What Advance, New and Waiting of the document's answer return and leave, for every epochs that lie in memory: the same functions as the program's. No conditions beyond what Ok says. -/
import Derived.Test.YthiicngnhnglfaaR1
namespace Go.Proofs.Ythiicngnhnglfaa
open Go.RowKit

set_option maxRecDepth 100000 in
set_option maxHeartbeats 1000000 in
theorem radvance_at {w : World} {p b B : Nat} {s : Ep} (h : IsR w p b s) (k : Ok B s) (hB : B ≤ 1000000) :
    Calls Try.prog 17 #[.pointer (some ⟨p, 0, none⟩)] w fun e w' => e = .returned (.bool (advT s)) ∧ IsR w' p b (advS s) ∧ Bt p b b w w' := by
  have HE := hid h
  have htop := k.top
  have hcp := k.cpus
  clear h k
  go_enter Try.func17, Try.ntmps17
  go_wp2
  go_loopw [3] (fun i wr => ∃ (j q : Nat), j ≤ s.P.length ∧ i = .int .i64 j ∧ wr = w.drewN q ∧ ∀ l, l < j → late s.n (s.P.getD l none) = false) (fun i _ => s.P.length - (intOf i).toNat)
  case atStart => exact ⟨0, 0, Nat.zero_le _, rfl, rfl, fun l hl => by omega⟩
  case round =>
    obtain ⟨j, q, hj, rfl, hwr, hl⟩ := hrel
    have HL := hid hl
    have HBw : Hid (Below w.heap.size w wr) := by rw [hwr]; exact below_drewN (Below.refl _ _) q
    have HWr := hid hwr
    have hE := HE.out.below HBw.out
    clear hl hwr
    obtain ⟨c', v', hc0, hc1, -, -, hf0, -⟩ := hE.heads
    by_cases hlt : j < s.P.length
    · have q0 := hE.cells j hlt
      have hw : IntKind.i64.wrap ((j : Int) + 1) = (j : Int) + 1 := i64w (by omega) (by omega)
      have hw2 : IntKind.i64.wrap (j : Int) = (j : Int) := i64w (by omega) (by omega)
      have HStep : Hid (late s.n (s.P.getD j none) = false → ∀ d, d < j + 1 → late s.n (s.P.getD d none) = false) := by
        intro h1 d h3
        by_cases e : d = j
        · rw [e]; exact h1
        · exact HL.out d (by omega)
      have HR : Hid (∀ q', wr.drewN q' = w.drewN (q + q')) := fun q' => by rw [HWr.out, World.drewN_drewN]
      by_cases hx : (s.P.getD j none).isSome = true
      · rw [rI_some hx] at q0
        have hlate : late s.n (s.P.getD j none) = ((s.P.getD j none).getD 0 != s.n) := by unfold late; rw [hx]; rfl
        have HLt := hid hlate
        clear hE hx hlate
        generalize hy : (s.P.getD j none).getD 0 = y at *
        have hge : decide ((0 : Int) ≤ (y : Int)) = true := by simp
        have hge' : (0 : Int) ≤ (y : Int) := by omega
        clear hy
        generalize hnp : s.P.length = np at *
        by_cases hy : y = s.n
        · have HZ := hid (HStep.out (by rw [HLt.out, hy]; simp))
          have hd : ((y : Int) != (s.n : Int)) = false := by rw [hy]; simp
          clear hy
          go_wp2_with fail
          go_quiet (fail)
          go_wp2
          go_roundw
          case rel => exact ⟨j + 1, _, by omega, by go_num, HR.out _, HZ.out⟩
          case measure => simp [intOf]; omega
        · have hz : late s.n (s.P.getD j none) = true := by rw [HLt.out]; simpa using hy
          have HZ := hid (adv_no (s := s) (by rw [hnp]; exact hlt) hz)
          have hd : ((y : Int) != (s.n : Int)) = true := by simpa using (by omega : ¬ (y : Int) = (s.n : Int))
          clear hz hy
          go_wp2_with fail
          go_quiet (fail)
          go_wp2
          go_ret
          rw [HZ.out]
          unfold advS
          rw [HZ.out, if_neg (by decide)]
          have hq := below_drewN HBw.out nq
          exact ⟨rfl, HE.out.below hq, Bt.of_below hq⟩
      · have hn0 := rI_none hx
        rw [hn0] at q0
        have q0' : wr.cell? ⟨b, j, none⟩ = some (.int .i64 (-1)) := q0
        have HZ := hid (HStep.out (by rw [hn0]; rfl))
        clear hE hx q0 hn0
        generalize hnp : s.P.length = np at *
        go_wp2_with fail
        go_quiet (fail)
        go_wp2
        go_roundw
        case rel => exact ⟨j + 1, _, by omega, by go_num, HR.out _, HZ.out⟩
        case measure => simp [intOf]; omega
    · have hT : advT s = true := adv_yes fun d hd => HL.out d (by omega)
      have HT := hid hT
      have hw : IntKind.i64.wrap ((s.n : Int) + 1) = (s.n : Int) + 1 := i64w (by omega) (by omega)
      have HEr := hid hE
      clear hT hE
      go_wp2
      go_ret
      rw [HT.out]
      unfold advS
      rw [HT.out, if_pos rfl]
      have := HEr.out.setN (s.n + 1)
      rw [show ((s.n + 1 : Nat) : Int) = (s.n : Int) + 1 by omega] at this
      exact ⟨rfl, this, (Bt.of_below HBw.out).trans (Bt.setHead _ _ _)⟩

/-! ### New -/
set_option maxHeartbeats 400000 in
theorem rnew_no (n : Int) (w : World) (h : ¬ (1 ≤ n ∧ n ≤ 8)) :
    Calls Try.prog 9 #[.int .i64 n] w fun e w' => e = .returned (.tuple #[.pointer (some ⟨w.heap.size, 0, none⟩), .int .i64 1]) ∧ Below w.heap.size w w' := by
  by_cases h1 : n < 1
  · clear h
    go_enter Try.func9, Try.ntmps9
    go_wp2
    go_ret2
    exact ⟨rfl, below_one w _⟩
  · have h2 : 8 < n := by omega
    clear h
    go_enter Try.func9, Try.ntmps9
    go_wp2
    go_ret2
    exact ⟨rfl, below_one w _⟩
theorem grown_set (w : World) (g i : Nat) (u : Value) : w.grownBy (w.setCell ⟨g, i, none⟩ u) (some g) :=
  ⟨rfl, rfl, rfl, by simp [World.setCell], fun k _ hk => Below.heap_setCell w ⟨g, i, none⟩ u k (fun e => hk (by rw [e]))⟩
theorem rep_snoc (j : Nat) : (List.replicate j (Value.int .i64 (-1))) ++ [.int .i64 (-1)] = List.replicate (j + 1) (.int .i64 (-1)) := by rw [List.replicate_succ']
theorem rc_none (k : Nat) : rc (List.replicate k none) = List.replicate k (.int .i64 (-1)) := by simp [rc, rI]
set_option maxRecDepth 100000 in
set_option maxHeartbeats 2000000 in
theorem rnew_yes (k : Nat) (w : World) (h1 : 1 ≤ k) (h2 : k ≤ 8) :
    Calls Try.prog 9 #[.int .i64 k] w fun e w' => ∃ b, e = .returned (.tuple #[.pointer (some ⟨w.heap.size, 0, none⟩), .int .i64 0]) ∧ w.heap.size < b ∧ IsR w' w.heap.size b (ep0 k) ∧ Below w.heap.size w w' := by
  obtain ⟨i0, hi, hz0, hz1, hz2⟩ := info_parts info3
  have hA := hid (heap_alloc_new w (.cells #[.int .i64 0, .slice none 0 0, .slice none 0 0] 42))
  have hAB := hid (below_one w (.cells #[.int .i64 0, .slice none 0 0, .slice none 0 0] 42))
  have hAs : Hid ((w.alloc (.cells #[.int .i64 0, .slice none 0 0, .slice none 0 0] 42)).heap.size = w.heap.size + 1) := by show _ = _; simp
  go_enter Try.func9, Try.ntmps9
  go_wp2
  go_loopw [5] (fun i wx => ∃ (j : Nat) (v : Value), j ≤ k ∧ i = .int .i64 j ∧ wx.heap[w.heap.size]? = some (.cells #[.int .i64 0, v, .slice none 0 0] 42 (0, 0)) ∧ wx.ownsRow (w.heap.size + 1) 3 1 v j (List.replicate j (.int .i64 (-1))) ∧ Below w.heap.size w wx ∧ w.heap.size + 1 ≤ wx.heap.size) (fun i _ => k - (intOf i).toNat)
  case atStart => exact ⟨0, _, Nat.zero_le _, rfl, hA.out, ⟨rfl, .inl ⟨rfl, rfl⟩⟩, hAB.out, by rw [hAs.out]; omega⟩
  case round =>
    obtain ⟨j, v, hj, rfl, hp, hrow, hBx, hsz⟩ := hrel
    have HB := hid hBx
    clear hBx
    by_cases hlt : j < k
    · have q1 := cell_of (i := 1) hp rfl
      have hoff : v.ownBlock ≠ some w.heap.size := fun e => by have := (hrow.lt _ e).1; omega
      have hw : IntKind.i64.wrap ((j : Int) + 1) = (j : Int) + 1 := i64w (by omega) (by omega)
      have HP := hid hp
      have HO := hid hoff
      have HSz := hid hsz
      have HRw := hid hrow
      clear hp hoff
      go_wp2_with (first
        | (at_builtin; refine wpList_append_own _ rfl _ _ 35 rfl (w.heap.size + 1) 3 i0 (.int .i64 0) 1 8 Try.underlying35 hi hz0 hz1 hz2 rfl (by decide) _ _ _ rfl (hrow.alloc _) ⟨wr.heap.size, 0, none⟩ 1 1 [.int .i64 (-1)] rfl rfl (cell_one_new _ _ _) (by intro u hu; simp at hu; subst hu; rfl) (by unfold maxLen; omega) (by omega) (by simp; omega) ?_; intro v' w3 hown hg3 hnil
           have HP3 := hid ((hg3.block _ (by simp; omega) (fun e => HO.out e.symm)).trans (hkeep HP.out (.cells #[.int .i64 (-1)] 3)))
           obtain ⟨gv, cv, rfl⟩ : ∃ gv cv, v' = .slice (some ⟨gv, 0, none⟩) (j + 1) cv := by
             rcases hown.2 with ⟨_, h0⟩ | ⟨g, cap, cur, e, _⟩
             · omega
             · exact ⟨g, cap, e⟩
           have q3 := cell_of (i := 1) HP3.out rfl
           have q4 := free_of (i := 1) HP3.out)
        | go_in)
      go_roundw
      case rel =>
        refine ⟨j + 1, .slice (some ⟨gv, 0, none⟩) (j + 1) cv, by omega, by go_num, ?_, ?_, ?_, ?_⟩
        · rw [heap_setCell_self HP3.out]; rfl
        · rw [← rep_snoc]
          exact (by simpa using hown : w3.ownsRow (w.heap.size + 1) 3 1 (.slice (some ⟨gv, 0, none⟩) (j + 1) cv) (j + 1) _).kept (grown_set w3 w.heap.size 1 _) (Or.inr (fun e => by have := (hown.lt _ e).1; omega))
        · exact ((HB.out.alloc HB.out.size _).grown hg3 (by have := HB.out.size; simp; omega) (fun x hx => by have := (HRw.out.lt x hx).1; omega)).setCell (p := ⟨w.heap.size, 1, none⟩) (Nat.le_refl _) _
        · have := hg3.size
          have h3 : (w3.setCell ⟨w.heap.size, 1, none⟩ (.slice (some ⟨gv, 0, none⟩) (j + 1) cv)).heap.size = w3.heap.size := by simp [World.setCell]
          simp at this; rw [h3]; omega
      case measure => simp [intOf]; omega
    · obtain rfl : j = k := by omega
      have HP := hid hp
      have HR := hid hrow
      clear hp hrow
      go_wp2
      go_ret2
      rcases HR.out.2 with ⟨_, h0⟩ | ⟨g, cap, cur, rfl, hg, hcur, hle, hcap, hcs, htk⟩
      · omega
      refine ⟨g, rfl, by omega, ⟨⟨cap, .slice none 0 0, ?_, ⟨rfl, .inl ⟨rfl, rfl⟩⟩⟩, ⟨cur.toList.drop j, ?_⟩⟩, HB.out⟩
      · have := HP.out
        simpa [ep0] using this
      · show _ = some (Obj.cells ⟨rc (List.replicate j none) ++ cur.toList.drop j⟩ 3 (0, 0))
        rw [rc_none, hcur]
        rw [Nat.mul_one] at htk
        rw [← htk, List.take_append_drop]

/-! ### Waiting -/
theorem info57 : (Try.prog.info? 57).map (fun i => (i.zero, i.size, i.bytes)) = some (some (.agg #[.int .i64 0, .int .i64 0]), 2, 16) := by kernel_rfl
/-- The cells of what waits, at some later world. -/
theorem lw_cells {w w' : World} {v : Value} {L : Ws} (h : LW w v L) (k : Below w.heap.size w w') : ∃ q c, v = .slice q L.length c ∧ (L ≠ [] → ∃ g, q = some ⟨g, 0, none⟩ ∧ g < w.heap.size ∧ ∀ i, i < L.length → w'.cell? ⟨g, i * 2, none⟩ = some (.int .i64 ((L.getD i (0, 0)).1 : Nat)) ∧ w'.cell? ⟨g, i * 2 + 1, none⟩ = some (.int .i64 ((L.getD i (0, 0)).2 : Nat))) := by
  rcases h.2 with ⟨rfl, h0⟩ | ⟨g, cap, cur, rfl, _, hb, hle, hcap, hcs, htk⟩
  · refine ⟨none, 0, by rw [h0], fun hne => absurd (List.eq_nil_of_length_eq_zero h0) hne⟩
  · refine ⟨_, cap, rfl, fun _ => ⟨g, rfl, lt_of_block hb, fun i hi => ?_⟩⟩
    have hb' := stay k hb
    obtain ⟨a0, a1⟩ := wc_at L i hi
    have up : ∀ d u, d < L.length * 2 → (wc L)[d]? = some u → cur[d]? = some u := by
      intro d u hd hu
      rw [← htk, List.getElem?_take_of_lt hd] at hu
      simpa using hu
    exact ⟨cell_of hb' (up _ _ (by omega) a0), cell_of hb' (up _ _ (by omega) a1)⟩
theorem ints_snoc (l : List Nat) (x : Nat) : ints l ++ [.int .i64 (x : Nat)] = ints (l ++ [x]) := by simp [ints]
theorem ints_one (l : List Nat) : ∀ u ∈ ints l, u.oneCell' = true := by
  intro u hu
  simp only [ints, List.mem_map] at hu
  obtain ⟨x, _, rfl⟩ := hu
  rfl
set_option maxRecDepth 100000 in
set_option maxHeartbeats 2000000 in
theorem rwaiting_at {w : World} {p b B : Nat} {s : Ep} (h : IsR w p b s) (k : Ok B s) (hB : B ≤ 1000000) :
    Calls Try.prog 25 #[.pointer (some ⟨p, 0, none⟩)] w fun e w' => ∃ v, e = .returned v ∧ w'.ownsRow w.heap.size 3 1 v (waL s).length (ints (waL s)) ∧ Below w.heap.size w w' := by
  obtain ⟨i0, hi, hz0, hz1, hz2⟩ := info_parts info3
  obtain ⟨c, v, -, -, hc, hL, -, -⟩ := h.heads
  have HP := hid h.lt.1
  have HL := hid hL
  have hlen := k.len
  obtain ⟨q, cv, rfl, -⟩ := lw_cells hL (Below.refl _ _)
  have HW : Hid (waL s = s.L.map (·.1)) := rfl
  generalize waL s = X at *
  generalize s.L = L at *
  clear h hL k
  have HX : Hid (X.length = L.length) := by rw [HW.out]; show _ = _; simp
  have HK : Hid (∀ j, j < L.length → X.take (j + 1) = X.take j ++ [(L.getD j (0, 0)).1]) := by
    intro j hj
    rw [take_snoc X j (by rw [HX.out]; exact hj), HW.out]
    simp [List.getD, hj]
  generalize hn : L.length = n at *
  have HN := hid hn
  clear hn
  go_enter Try.func25, Try.ntmps25
  go_wp2
  go_loopw [3, 4] (fun o i wx => ∃ j : Nat, j ≤ n ∧ i = .int .i64 j ∧ wx.ownsRow w.heap.size 3 1 o j (ints (X.take j)) ∧ Below w.heap.size w wx) (fun _ i _ => n - (intOf i).toNat)
  case atStart => exact ⟨0, Nat.zero_le _, rfl, ⟨rfl, .inl ⟨rfl, rfl⟩⟩, Below.refl _ _⟩
  case round =>
    obtain ⟨j, hj, rfl, hrow, hBx⟩ := hrel
    have HB := hid hBx
    have q2 := (hBx.cell (p := ⟨p, 2, none⟩) HP.out).trans hc
    clear hBx
    by_cases hlt : j < n
    · obtain ⟨q', c', hqe, hq⟩ := lw_cells HL.out HB.out
      obtain ⟨rfl, -, rfl⟩ := Value.slice.inj hqe
      obtain ⟨g, rfl, -, hcl⟩ := hq (by intro e; have := HN.out; rw [e] at this; simp at this; omega)
      obtain ⟨d0, -⟩ := hcl j (by rw [HN.out]; exact hlt)
      have hk := HK.out j hlt
      generalize (L.getD j (0, 0)).1 = x at *
      have HKj := hid hk
      have HRw := hid hrow
      have hw : IntKind.i64.wrap ((j : Int) + 1) = (j : Int) + 1 := i64w (by omega) (by omega)
      clear hk hcl hq hqe
      go_wp2_with (first
        | (at_builtin; refine wpList_append_own _ rfl _ _ 35 rfl w.heap.size 3 i0 (.int .i64 0) 1 8 Try.underlying35 hi hz0 hz1 hz2 rfl (by decide) _ _ _ rfl (hrow.alloc _) ⟨wr.heap.size, 0, none⟩ 1 1 [.int .i64 (x : Nat)] rfl rfl (cell_one_new _ _ _) (by intro u hu; simp at hu; subst hu; rfl) (by unfold maxLen; omega) (by omega) (by have := HB.out.size; simp; omega) ?_; intro v' w3 hown hg3 hnil; go_frame)
        | go_in)
      go_roundw
      case rel =>
        refine ⟨j + 1, by omega, by go_num, ?_, (HB.out.alloc HB.out.size _).grown hg3 (by have := HB.out.size; simp; omega) (fun y hy => (HRw.out.lt y hy).1)⟩
        rw [HKj.out, ← ints_snoc]
        simpa using hown
      case measure => simp [intOf]; omega
    · obtain rfl : j = n := by omega
      have HR := hid hrow
      clear hrow
      go_wp2
      go_ret
      refine ⟨_, rfl, ?_, HB.out⟩
      have := HR.out
      rw [← HX.out, List.take_length] at this
      exact this
end Go.Proofs.Ythiicngnhnglfaa
