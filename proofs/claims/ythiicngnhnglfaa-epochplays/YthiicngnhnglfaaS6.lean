/- What Copy returns, for every epochs that lie in memory: other epochs that stand there; the world's old blocks are as they were. No conditions. -/
import Derived.Test.YthiicngnhnglfaaS5
import Derived.Shelf.SlMaps.Clone
import Derived.Lib.SliceRun
namespace Go.Proofs.Ythiicngnhnglfaa
open Go.RowKit Go.Maps

set_option maxRecDepth 100000 in
set_option maxHeartbeats 1000000 in
theorem mclone_at {w : World} {m : Nat} {L : Ws} (h : Own w m L) :
    Calls Try.prog 35 #[.map (some m)] w fun e w' => e = .returned (.map (some w.heap.size)) ∧ Own w' w.heap.size L ∧ Below w.heap.size w w' := by
  obtain ⟨es, clock, hb, F, hs, hD⟩ := h
  have HR : Hid (Own (w.alloc (.map es clock)) w.heap.size L) := ⟨es, clock, (MapKept.heap_alloc w _).1, F, hs, hD⟩
  have hq := fun w => run_eql_map_nil_sl (P := Try.prog) w 49 _ _ (some m) Try.underlying49
  clear F hs hD
  go_enter Try.func35, Try.ntmps35
  go_wp2
  rw [run_callFunc_extern Try.func37 (by kernel_rfl) (by kernel_rfl) (by kernel_rfl) (e := Extern.MapsClone.clone) (by kernel_rfl), run_maps_clone_sl w 49 hb]
  simp only [Result.andThen]
  rw [Oper.upon_value]
  go_wp2
  rw [run_typeAssert_map_sl _ 49 20 _ _ _ Try.underlying49]
  simp only [Result.andThen]
  rw [Oper.upon_value]
  go_wp2
  go_ret
  exact ⟨rfl, HR.out, below_one _ _⟩
set_option maxHeartbeats 400000 in
theorem bclone_at {w : World} {m : Nat} {L : Ws} (h : Own w m L) :
    Calls Try.prog 32 #[.map (some m)] w fun e w' => e = .returned (.map (some w.heap.size)) ∧ Own w' w.heap.size L ∧ Below w.heap.size w w' := by
  have HC := hid (mclone_at h)
  clear h
  go_enter Try.func32, Try.ntmps32
  go_wp2_with fail
  refine HC.out.mono ?_
  rintro e w1 ⟨rfl, hO, hB⟩
  have HO := hid hO
  have HB := hid hB
  clear hO hB
  go_wp2
  go_ret
  exact ⟨rfl, HO.out, HB.out⟩
set_option maxRecDepth 100000 in
set_option maxHeartbeats 1000000 in
theorem sclone_at {w : World} {p b m : Nat} {s : Ep} (h : IsE w p b m s) (hp : 1 ≤ s.P.length) (h8 : s.P.length ≤ 8) (c : Nat) :
    Calls Try.prog 31 #[.slice (some ⟨b, 0, none⟩) s.P.length c] w fun x w' => ∃ g k r, x = .returned (.slice (some ⟨g, 0, none⟩) s.P.length k) ∧ w.heap.size ≤ g ∧ w'.heap[g]? = some (.cells ⟨pc s.P ++ r⟩ 55 (0, 0)) ∧ Below w.heap.size w w' := by
  obtain ⟨i0, hi, hz0, hz1, hz2⟩ := info_parts info55
  have HX : Hid (∀ o : Obj, ∀ j u, (pc s.P)[j]? = some u → (w.alloc o).cell? ((⟨b, 0, none⟩ : Addr).add j) = some u) := by
    intro o j u hu
    obtain ⟨r, hr⟩ := (h.alloc o).row
    have := cell_of (i := j) (v := u) hr (by simpa using pc_pre s.P r hu)
    have e : (⟨b, 0, none⟩ : Addr).add j = ⟨b, j, none⟩ := by by_cases hj : j = 0 <;> simp [Addr.add, hj]
    rw [e]; exact this
  have HOW := hid (World.ownsRow_made w #[] (e := 55) (size := 2) (base := w.heap.size) 0 (Nat.le_refl _) (by decide) rfl)
  have HL := hid (pc_length s.P)
  have he := fun W => Lib.run_eql_slice_nil (P := Try.prog) W 47 55 (some ⟨b, 0, none⟩) s.P.length c 0 0 Try.underlying47
  simp only [Option.isNone_some] at he
  have hz3 : (Value.agg #[Value.bool false, Value.int IntKind.i64 0]).cells.size = 2 := rfl
  clear h
  go_enter Try.func31, Try.ntmps31
  go_wp2_with (at_builtin; refine wpList_append_own _ rfl _ _ 47 rfl w.heap.size 55 i0 _ 2 16 Try.underlying47 hi hz0 hz1 hz2 hz3 (by decide) _ 0 [] rfl HOW.out ⟨b, 0, none⟩ s.P.length c (pc s.P) rfl HL.out (HX.out _) (pc_one s.P) (by unfold maxLen; omega) (by omega) (by simp) ?_)
  intro v' w1 hown hgrow _
  rcases hown.2 with ⟨_, h0⟩ | ⟨g, cap, cur, rfl, hg, hcur, hle, hcap, hsz, htk⟩
  · omega
  have HB := hid ((below_one w _).grown hgrow (by simp) (fun k e => by simp [Value.ownBlock] at e; omega))
  have HG : Hid (∃ r, w1.heap[g]? = some (.cells ⟨pc s.P ++ r⟩ 55 (0, 0))) := by
    refine ⟨cur.toList.drop (s.P.length * 2), ?_⟩
    rw [hcur, ← htk, List.take_append_drop]
  have HGs := hid hg
  clear hown hgrow hcur hsz htk hg
  go_wp2
  go_ret
  obtain ⟨r, hr⟩ := HG.out
  exact ⟨g, cap, r, rfl, HGs.out, hr, HB.out⟩

set_option maxHeartbeats 400000 in
theorem copy_none {w : World} {v : Value} (h : NoE w v) :
    Calls Try.prog 21 #[v] w fun e w' => e = .returned (.pointer none) ∧ w' = w := by
  have HH := hid h
  clear h
  go_enter Try.func21, Try.ntmps21
  go_wp2_with fail
  refine (isNone_yes HH.out).mono ?_
  rintro e w1 ⟨rfl, rfl⟩
  go_wp2
  go_ret
  exact ⟨rfl, rfl⟩
/-- Behind the two clones: the copy. -/
theorem isE_copy {w W1 W : World} {p b m g g' k : Nat} {s : Ep} {r : List Value} (h : IsE w p b m s) (hg : w.heap.size ≤ g) (hr : W1.heap[g]? = some (.cells ⟨pc s.P ++ r⟩ 55 (0, 0))) (h1 : Below W1.heap.size W1 W) (hO : Own W g' s.L) :
    IsE (W.alloc (.cells #[.int .i64 s.n, .slice (some ⟨g, 0, none⟩) s.P.length k, .map (some g')] 51)) W.heap.size g g' s := by
  have _ := h
  have _ := hg
  have hr2 := stay h1 hr
  refine ⟨⟨k, heap_alloc_new _ _⟩, ⟨r, hkeep hr2 _⟩, hO.alloc _, ?_⟩
  have := lt_of_block hr2
  omega
set_option maxRecDepth 100000 in
set_option maxHeartbeats 2000000 in
theorem copy_at {w : World} {p b m B : Nat} {s : Ep} (h : IsE w p b m s) (k : Ok B s) :
    Calls Try.prog 21 #[.pointer (some ⟨p, 0, none⟩)] w fun x w' => ∃ q g u, x = .returned (.pointer (some ⟨q, 0, none⟩)) ∧ IsE w' q g u s ∧ w.heap.size ≤ q ∧ w.heap.size ≤ g ∧ w.heap.size ≤ u ∧ Below w.heap.size w w' := by
  have HN := hid (isNone_no h k.pos)
  have HE := hid h
  obtain ⟨c, hc0, hc1, hc2, -⟩ := h.heads
  have hS0 : w.drew.cell? ⟨p, 0, none⟩ = some (.int .i64 s.n) ∧ w.drew.cell? ⟨p, 1, none⟩ = some (.slice (some ⟨b, 0, none⟩) s.P.length c) ∧ w.drew.cell? ⟨p, 2, none⟩ = some (.map (some m)) := ⟨hc0, hc1, hc2⟩
  have hcell : ∀ W, Below w.heap.size w W → (W.cell? ⟨p, 0, none⟩ = some (.int .i64 s.n) ∧ W.cell? ⟨p, 1, none⟩ = some (.slice (some ⟨b, 0, none⟩) s.P.length c) ∧ W.cell? ⟨p, 2, none⟩ = some (.map (some m))) := fun W hB =>
    ⟨(hB.cell (p := ⟨p, 0, none⟩) h.lt.1).trans hc0, (hB.cell (p := ⟨p, 1, none⟩) h.lt.1).trans hc1, (hB.cell (p := ⟨p, 2, none⟩) h.lt.1).trans hc2⟩
  have H31 : Hid (∀ W, Hid (Below w.heap.size w W) → Calls Try.prog 31 #[.slice (some ⟨b, 0, none⟩) s.P.length c] W fun x w' => ∃ g k, x = .returned (.slice (some ⟨g, 0, none⟩) s.P.length k) ∧ (w'.cell? ⟨p, 0, none⟩ = some (.int .i64 s.n) ∧ w'.cell? ⟨p, 1, none⟩ = some (.slice (some ⟨b, 0, none⟩) s.P.length c) ∧ w'.cell? ⟨p, 2, none⟩ = some (.map (some m))) ∧ Hid (Below w.heap.size w w') ∧ Hid (w.heap.size ≤ g ∧ ∃ r, w'.heap[g]? = some (.cells ⟨pc s.P ++ r⟩ 55 (0, 0))) ∧ Hid (Below W.heap.size W w')) := by
    intro W hB
    have hB := hB.out
    refine (sclone_at (h.below hB) k.pos k.cpus c).mono ?_
    rintro x w' ⟨g, k, r, rfl, h1, h2, h3⟩
    have hB' := bgo hB h3
    exact ⟨g, k, rfl, hcell _ hB', hB', ⟨Nat.le_trans hB.size h1, r, h2⟩, h3⟩
  have H32 : Hid (∀ W, Hid (Below w.heap.size w W) → Calls Try.prog 32 #[.map (some m)] W fun x w' => ∃ g, x = .returned (.map (some g)) ∧ (w'.cell? ⟨p, 0, none⟩ = some (.int .i64 s.n) ∧ w'.cell? ⟨p, 1, none⟩ = some (.slice (some ⟨b, 0, none⟩) s.P.length c) ∧ w'.cell? ⟨p, 2, none⟩ = some (.map (some m))) ∧ Hid (Below w.heap.size w w') ∧ Hid (w.heap.size ≤ g ∧ Own w' g s.L) ∧ Hid (Below W.heap.size W w')) := by
    intro W hB
    have hB := hB.out
    refine (bclone_at (h.below hB).map).mono ?_
    rintro x w' ⟨rfl, h2, h3⟩
    have hB' := bgo hB h3
    exact ⟨_, rfl, hcell _ hB', hB', ⟨hB.size, h2⟩, h3⟩
  have HB0 : Hid (Below w.heap.size w w.drew) := (Below.refl _ _).drew
  have HSA : Hid (∀ W o, Hid (Below w.heap.size w W) → ((W.alloc o).cell? ⟨p, 0, none⟩ = some (.int .i64 s.n) ∧ (W.alloc o).cell? ⟨p, 1, none⟩ = some (.slice (some ⟨b, 0, none⟩) s.P.length c) ∧ (W.alloc o).cell? ⟨p, 2, none⟩ = some (.map (some m)))) := fun W o hB => hcell _ (bgo hB.out (below_one W o))
  clear h k hcell hc0 hc1 hc2
  generalize hn : s.n = n at *
  generalize hl : s.P.length = l at *
  have HNn := hid hn
  have HLl := hid hl
  clear hn hl
  go_enter Try.func21, Try.ntmps21
  go_wp2_with fail
  refine HN.out.mono ?_
  rintro e w1 ⟨rfl, rfl⟩
  go_wp2_with fail
  go_region_held3 (fun w' => w'.cell? ⟨p, 0, none⟩ = some (.int .i64 n) ∧ w'.cell? ⟨p, 1, none⟩ = some (.slice (some ⟨b, 0, none⟩) l c) ∧ w'.cell? ⟨p, 2, none⟩ = some (.map (some m))) (first | with_reducible exact hS0 | with_reducible assumption | exact HSA.out _ _ (by with_reducible assumption))
    (first
      | (go_at_call 31; refine (H31.out _ (by assumption)).mono ?_; rintro e2 wa ⟨g, k, rfl, hS2, HBa, HRa, HCa⟩)
      | (go_at_call 32; refine (H32.out _ (by assumption)).mono ?_; rintro e3 wb ⟨u, rfl, hS3, HBb, HRb, HCb⟩))
  all_goals go_wp2
  all_goals go_ret
  all_goals
    obtain ⟨ha1, r, ha2⟩ := HRa.out
    obtain ⟨hb1, hb2⟩ := HRb.out
  all_goals first
    | (have hC : Below wa.heap.size wa wb := HCb.out
       have := isE_copy (k := k) HE.out ha1 ha2 hC hb2
       rw [HNn.out, HLl.out] at this
       exact ⟨_, _, _, rfl, this, HBb.out.size, ha1, hb1, bgo HBb.out (below_one _ _)⟩)
    | (have hC : Below wb.heap.size wb wa := HCa.out
       have := isE_copy (k := k) HE.out ha1 ha2 (Below.refl _ _) (own_keep hb2 (hC.block _ hb2.lt))
       rw [HNn.out, HLl.out] at this
       exact ⟨_, _, _, rfl, this, HBa.out.size, ha1, hb1, bgo HBa.out (below_one _ _)⟩)
end Go.Proofs.Ythiicngnhnglfaa
