/- What New, Of and Copy return, for every pool whose descriptors lie in memory and every number: a new pool of free frames, a frame's descriptor, another pool that stands there; the world's old blocks are as they were. -/
import Derived.Test.YtpfmmlbakbhklaaGreatDoorOS1
import Derived.Deep.OwnRows
import Derived.Deep.AppendLies
import Derived.Maps.AppendAt
namespace Go.Proofs.YtpfmmlbakbhklaaGreatDoor.O
open Go.RowKit

theorem info64 : (Tryz.prog.info? 64).map (fun i => (i.zero, i.size, i.bytes)) = some (some (.agg #[.int .i64 0, .int .i64 0, .int .i64 0, .int .i64 0]), 4, 32) := by kernel_rfl
theorem info91 : (Tryz.prog.info? 91).map (fun i => (i.zero, i.size, i.bytes)) = some (some (.agg #[.int .i64 0, .int .i64 0, .int .i64 0, .int .i64 0]), 4, 32) := by kernel_rfl
theorem made4 (n : Nat) : madeCells #[(.int .i64 0 : Value), .int .i64 0, .int .i64 0, .int .i64 0] (n * 4) = ⟨fl (List.replicate n zd)⟩ := by
  apply Array.toList_inj.1
  rw [fl_zero]
  apply List.ext_getElem
  · simp [madeCells]
  · intro i h1 h2
    have : ∀ j : Nat, j < 4 → (#[(.int .i64 0 : Value), .int .i64 0, .int .i64 0, .int .i64 0])[j]! = .int .i64 0 := by
      intro j hj
      match j, hj with
      | 0, _ => rfl
      | 1, _ => rfl
      | 2, _ => rfl
      | 3, _ => rfl
    simp only [madeCells, Array.toList_map, List.getElem_map, List.getElem_replicate, Array.getElem_toList, Array.getElem_range]
    exact this _ (Nat.mod_lt _ (by decide))
/-- Behind New: the pool. -/
theorem isP_new (t u : TypeId) (w : World) (n : Nat) (h1 : 1 ≤ n) (h2 : n ≤ 4096) :
    IsP t u ((w.alloc (.cells (madeCells #[(.int .i64 0 : Value), .int .i64 0, .int .i64 0, .int .i64 0] (n * 4)) u)).alloc (.cells #[.slice (some ⟨w.heap.size, 0, none⟩) n n] t)) (w.heap.size + 1) w.heap.size (List.replicate n zd) := by
  obtain ⟨a, b⟩ := two_new w (.cells (madeCells #[(.int .i64 0 : Value), .int .i64 0, .int .i64 0, .int .i64 0] (n * 4)) u) (.cells #[.slice (some ⟨w.heap.size, 0, none⟩) n n] t)
  refine ⟨⟨n, ?_⟩, ⟨[], ?_⟩, by omega, by simpa using h1, by simpa using h2⟩
  · rw [List.length_replicate]; exact b
  · rw [List.append_nil, ← made4]; exact a

set_option maxHeartbeats 400000 in
theorem new_yes (n : Nat) (w : World) (h1 : 1 ≤ n) (h2 : n ≤ 4096) :
    Calls Tryz.prog 35 #[.int .i64 n] w fun e w' => e = .returned (.tuple #[.pointer (some ⟨w.heap.size + 1, 0, none⟩), .int .i64 0]) ∧ IsP 129 64 w' (w.heap.size + 1) w.heap.size (List.replicate n zd) ∧ Below w.heap.size w w' := by
  have hmk : ∀ W : World, (Instr.makeSlice 126 (.int .i64 (n : Int)) (.int .i64 (n : Int))).run Tryz.prog W = .ok (.slice (some ⟨W.heap.size, 0, none⟩) n n) (W.alloc (.cells (madeCells #[(.int .i64 0 : Value), .int .i64 0, .int .i64 0, .int .i64 0] (n * 4)) 64)) := by
    intro W
    obtain ⟨i, hi, hzz⟩ := Option.map_eq_some_iff.1 info64
    simp only [Prod.mk.injEq] at hzz
    obtain ⟨hz, hs, hb⟩ := hzz
    have hr := run_make (P := Tryz.prog) W 126 64 i _ Tryz.underlying126 hi hz .i64 .i64 n n (by omega) (Int.le_refl _) (by rw [hb]; omega) (by omega)
    simp only [Int.toNat_natCast, hs] at hr
    exact hr
  have hN := hid (isP_new 129 64 w n h1 h2)
  go_enter Tryz.func35, Tryz.ntmps35
  go_wp2
  go_ret2
  exact ⟨rfl, hN.out, btwo w _ _⟩
set_option maxHeartbeats 400000 in
theorem new_no (n : Int) (w : World) (h : ¬ (1 ≤ n ∧ n ≤ 4096)) :
    Calls Tryz.prog 35 #[.int .i64 n] w fun e w' => e = .returned (.tuple #[.pointer none, .int .i64 1]) ∧ w' = w := by
  by_cases h1 : n < 1
  · clear h
    go_enter Tryz.func35, Tryz.ntmps35
    go_wp2
    go_ret2
    exact ⟨rfl, rfl⟩
  · have h2 : 4096 < n := by omega
    clear h
    go_enter Tryz.func35, Tryz.ntmps35
    go_wp2
    go_ret2
    exact ⟨rfl, rfl⟩

set_option maxHeartbeats 400000 in
theorem rnew_yes (n : Nat) (w : World) (h1 : 1 ≤ n) (h2 : n ≤ 4096) :
    Calls Tryz.prog 39 #[.int .i64 n] w fun e w' => e = .returned (.tuple #[.pointer (some ⟨w.heap.size + 1, 0, none⟩), .int .i64 0]) ∧ IsP 90 91 w' (w.heap.size + 1) w.heap.size (List.replicate n zd) ∧ Below w.heap.size w w' := by
  have hmk : ∀ W : World, (Instr.makeSlice 88 (.int .i64 (n : Int)) (.int .i64 (n : Int))).run Tryz.prog W = .ok (.slice (some ⟨W.heap.size, 0, none⟩) n n) (W.alloc (.cells (madeCells #[(.int .i64 0 : Value), .int .i64 0, .int .i64 0, .int .i64 0] (n * 4)) 91)) := by
    intro W
    obtain ⟨i, hi, hzz⟩ := Option.map_eq_some_iff.1 info91
    simp only [Prod.mk.injEq] at hzz
    obtain ⟨hz, hs, hb⟩ := hzz
    have hr := run_make (P := Tryz.prog) W 88 91 i _ Tryz.underlying88 hi hz .i64 .i64 n n (by omega) (Int.le_refl _) (by rw [hb]; omega) (by omega)
    simp only [Int.toNat_natCast, hs] at hr
    exact hr
  have hN := hid (isP_new 90 91 w n h1 h2)
  go_enter Tryz.func39, Tryz.ntmps39
  go_wp2
  go_ret2
  exact ⟨rfl, hN.out, btwo w _ _⟩
set_option maxHeartbeats 400000 in
theorem rnew_no (n : Int) (w : World) (h : ¬ (1 ≤ n ∧ n ≤ 4096)) :
    Calls Tryz.prog 39 #[.int .i64 n] w fun e w' => e = .returned (.tuple #[.pointer (some ⟨w.heap.size, 0, none⟩), .int .i64 1]) ∧ Below w.heap.size w w' := by
  by_cases h1 : n < 1
  · clear h
    go_enter Tryz.func39, Tryz.ntmps39
    go_wp2
    go_ret2
    exact ⟨rfl, below_one w _⟩
  · have h2 : 4096 < n := by omega
    clear h
    go_enter Tryz.func39, Tryz.ntmps39
    go_wp2
    go_ret2
    exact ⟨rfl, below_one w _⟩

set_option maxRecDepth 100000 in
set_option maxHeartbeats 1000000 in
theorem of_none {w : World} {v : Value} (h : NoP w v) (f : Int) :
    Calls Tryz.prog 33 #[v, .int .i64 f] w fun x w' => x = .returned (.tuple #[dV zd, .bool false]) ∧ Below w.heap.size w w' := by
  have HC := hid (fault_none (h.below (below_one w (.cells #[.int .i64 0, .int .i64 0, .int .i64 0, .int .i64 0] 64))) f)
  have hA := heap_alloc_new w (.cells #[.int .i64 0, .int .i64 0, .int .i64 0, .int .i64 0] 64)
  have HB := hid (below_one w (.cells #[.int .i64 0, .int .i64 0, .int .i64 0, .int .i64 0] 64))
  obtain ⟨-, -, -, -, q10, q11, q12, q13⟩ := four hA
  have A1 := hid hA
  clear hA
  go_enter Tryz.func33, Tryz.ntmps33
  go_wp2_with fail
  refine HC.out.mono ?_
  rintro x w1 ⟨rfl, rfl⟩
  go_wp2
  (try simp only [Exit.inBlock, Exit.then])
  refine bodyPost_ret (results_row_tmp rfl _ _ w.heap.size _ rfl (run_loadVar_row _ _ 64 64 _ (0, 0) _ (heap_alloc_new w _) Tryz.underlying64 rfl size64)) rfl ?_
  exact ⟨rfl, below_one w _⟩

set_option maxRecDepth 100000 in
set_option maxHeartbeats 1000000 in
theorem of_out {w : World} {p b : Nat} {L : List Ds} (h : PP w p b L) (f : Int) (hf : ¬ (0 ≤ f ∧ f < L.length)) :
    Calls Tryz.prog 33 #[.pointer (some ⟨p, 0, none⟩), .int .i64 f] w fun x w' => x = .returned (.tuple #[dV zd, .bool false]) ∧ Below w.heap.size w w' := by
  have HC := hid (fault_out (h.alloc (.cells #[.int .i64 0, .int .i64 0, .int .i64 0, .int .i64 0] 64)) f hf)
  have hA := heap_alloc_new w (.cells #[.int .i64 0, .int .i64 0, .int .i64 0, .int .i64 0] 64)
  have HB := hid (below_one w (.cells #[.int .i64 0, .int .i64 0, .int .i64 0, .int .i64 0] 64))
  obtain ⟨-, -, -, -, q10, q11, q12, q13⟩ := four hA
  have A1 := hid hA
  clear hA
  go_enter Tryz.func33, Tryz.ntmps33
  go_wp2_with fail
  refine HC.out.mono ?_
  rintro x w1 ⟨rfl, rfl⟩
  go_wp2
  (try simp only [Exit.inBlock, Exit.then])
  refine bodyPost_ret (results_row_tmp rfl _ _ w.heap.size _ rfl (run_loadVar_row _ _ 64 64 _ (0, 0) _ (heap_alloc_new w _) Tryz.underlying64 rfl size64)) rfl ?_
  exact ⟨rfl, below_one w _⟩

set_option maxRecDepth 100000 in
set_option maxHeartbeats 1000000 in
theorem of_in {w : World} {p b : Nat} {L : List Ds} (h : PP w p b L) (i : Nat) (hi : i < L.length) :
    Calls Tryz.prog 33 #[.pointer (some ⟨p, 0, none⟩), .int .i64 i] w fun x w' => x = .returned (.tuple #[dV (L.getD i zd), .bool true]) ∧ Below w.heap.size w w' := by
  have hA := heap_alloc_new w (.cells #[.int .i64 0, .int .i64 0, .int .i64 0, .int .i64 0] 64)
  have HB := hid (below_one w (.cells #[.int .i64 0, .int .i64 0, .int .i64 0, .int .i64 0] 64))
  have h' := h.alloc (.cells #[.int .i64 0, .int .i64 0, .int .i64 0, .int .i64 0] 64)
  have HC := hid (fault_in h' i hi)
  obtain ⟨c, hc⟩ := h'.slice
  obtain ⟨c0, c1, c2, c3⟩ := h'.cells i hi
  have hn : L.length < 65536 := by have := h.top; omega
  obtain ⟨-, -, -, -, q10, q11, q12, q13⟩ := four hA
  have A1 := hid hA
  clear hA h h'
  generalize L.length = n at hc hn hi
  generalize L.getD i zd = d at c0 c1 c2 c3 ⊢
  obtain ⟨y0, y1, y2, y3⟩ := d
  dsimp only at c0 c1 c2 c3
  go_enter Tryz.func33, Tryz.ntmps33
  go_wp2_with fail
  refine HC.out.mono ?_
  rintro x w1 ⟨rfl, rfl⟩
  go_wp2
  (try simp only [Exit.inBlock, Exit.then])
  refine bodyPost_ret (results_row_tmp rfl _ _ w.heap.size _ rfl (run_loadVar_row _ _ 64 64 _ (0, 0) _ (heap_alloc_new w _) Tryz.underlying64 rfl size64)) rfl ?_
  exact ⟨rfl, below_one w _⟩

theorem fl_one (L : List Ds) : ∀ u ∈ fl L, u.oneCell' = true := by
  intro u hu
  simp only [fl, List.mem_flatMap] at hu
  obtain ⟨d, _, h⟩ := hu
  simp at h
  rcases h with rfl | rfl | rfl | rfl <;> rfl
set_option maxRecDepth 100000 in
set_option maxHeartbeats 1000000 in
theorem clone_at {w : World} {p b : Nat} {L : List Ds} (h : PP w p b L) (c : Nat) :
    Calls Tryz.prog 67 #[.slice (some ⟨b, 0, none⟩) L.length c] w fun x w' => ∃ g k r, x = .returned (.slice (some ⟨g, 0, none⟩) L.length k) ∧ w.heap.size ≤ g ∧ w'.heap[g]? = some (.cells ⟨fl L ++ r⟩ 64 (0, 0)) ∧ Below w.heap.size w w' := by
  obtain ⟨i0, hi, hz0, hz1, hz2⟩ := info_parts info64
  have hpos := h.pos
  have htop := h.top
  have HX : Hid (∀ o : Obj, ∀ j u, (fl L)[j]? = some u → (w.alloc o).cell? ((⟨b, 0, none⟩ : Addr).add j) = some u) := by
    intro o j u hu
    obtain ⟨r, hr⟩ := (h.alloc o).row
    have := cell_of (i := j) (v := u) hr (by simpa using fl_pre L r hu)
    have e : (⟨b, 0, none⟩ : Addr).add j = ⟨b, j, none⟩ := by
      by_cases hj : j = 0
      · subst hj; rfl
      · simp [Addr.add]; exact fun h => absurd h hj
    rw [e]; exact this
  have HOW := hid (World.ownsRow_made w #[] (e := 64) (size := 4) (base := w.heap.size) 0 (Nat.le_refl _) (by decide) rfl)
  have HL := hid (fl_length L)
  have he := fun W => Lib.run_eql_slice_nil (P := Tryz.prog) W 126 64 (some ⟨b, 0, none⟩) L.length c 0 0 Tryz.underlying126
  simp only [Option.isNone_some] at he
  have hz3 : (Value.agg #[Value.int IntKind.i64 0, Value.int IntKind.i64 0, Value.int IntKind.i64 0, Value.int IntKind.i64 0]).cells.size = 4 := rfl
  clear h
  go_enter Tryz.func67, Tryz.ntmps67
  go_wp2_with (at_builtin; refine wpList_append_own _ rfl _ _ 126 rfl w.heap.size 64 i0 _ 4 32 Tryz.underlying126 hi hz0 hz1 hz2 hz3 (by decide) _ 0 [] rfl HOW.out ⟨b, 0, none⟩ L.length c (fl L) rfl HL.out (HX.out _) (fl_one L) (by unfold maxLen; omega) (by omega) (by simp) ?_)
  intro v' w1 hown hgrow _
  rcases hown.2 with ⟨_, h0⟩ | ⟨g, cap, cur, rfl, hg, hcur, hle, hcap, hsz, htk⟩
  · omega
  have HB := hid ((below_one w _).grown hgrow (by simp) (fun k e => by simp [Value.ownBlock] at e; omega))
  have HG : Hid (∃ r, w1.heap[g]? = some (.cells ⟨fl L ++ r⟩ 64 (0, 0))) := by
    refine ⟨cur.toList.drop (L.length * 4), ?_⟩
    rw [hcur, ← htk, List.take_append_drop]
  have HGs := hid hg
  clear hown hgrow hcur hsz htk hg
  go_wp2
  go_ret
  obtain ⟨r, hr⟩ := HG.out
  exact ⟨g, cap, r, rfl, HGs.out, hr, HB.out⟩

set_option maxRecDepth 100000 in
set_option maxHeartbeats 1000000 in
theorem copy_at {w : World} {p b : Nat} {L : List Ds} (h : PP w p b L) :
    Calls Tryz.prog 27 #[.pointer (some ⟨p, 0, none⟩)] w fun x w' => ∃ q g, x = .returned (.pointer (some ⟨q, 0, none⟩)) ∧ PP w' q g L ∧ w.heap.size ≤ q ∧ w.heap.size ≤ g ∧ Below w.heap.size w w' := by
  have HP := hid h
  obtain ⟨c, hc⟩ := h.slice
  have HC := hid (clone_at h c)
  clear h
  generalize hn : L.length = n at hc
  have HN := hid hn
  rw [hn] at HC
  clear hn
  go_enter Tryz.func27, Tryz.ntmps27
  go_wp2_with fail
  refine (isNone_no HP.out).mono ?_
  rintro x w1 ⟨rfl, rfl⟩
  go_wp2_with fail
  refine HC.out.mono ?_
  rintro x w2 ⟨g, k, r, rfl, hg, hr, hB⟩
  have HG := hid hg
  have HR := hid hr
  have HB := hid hB
  clear hg hr hB
  go_wp2
  go_ret
  refine ⟨w2.heap.size, g, rfl, ⟨⟨k, ?_⟩, ⟨r, hkeep HR.out _⟩, ?_, HP.out.pos, HP.out.top⟩, HB.out.size, HG.out, bgo HB.out (below_one _ _)⟩
  · rw [HN.out]; exact heap_alloc_new _ _
  · have := lt_of_block HR.out; omega
theorem copy_none {w : World} {v : Value} (h : NoP w v) :
    Calls Tryz.prog 27 #[v] w fun x w' => x = .returned (.pointer none) ∧ w' = w := by
  have HP := hid h
  clear h
  go_enter Tryz.func27, Tryz.ntmps27
  go_wp2_with fail
  refine (isNone_yes HP.out).mono ?_
  rintro x w1 ⟨rfl, rfl⟩
  go_wp2
  go_ret
  exact ⟨rfl, rfl⟩
end Go.Proofs.YtpfmmlbakbhklaaGreatDoor.O
