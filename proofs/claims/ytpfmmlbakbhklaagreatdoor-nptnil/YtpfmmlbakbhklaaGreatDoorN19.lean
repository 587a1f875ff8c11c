/- What All returns: the frames of the tables, rising, in a row of its own; none of tables that are not live. Conditions: the words and frames lie in memory. -/
import Derived.Test.YtpfmmlbakbhklaaGreatDoorN18
import Derived.Test.YtpfmmlbakbhklaaGreatDoorShelf
import Derived.Sort.OwnSortedInts
namespace Go.Proofs.YtpfmmlbakbhklaaGreatDoor
open Go.RowKit Go.Sort

/-- What All tells. -/
def allL (xs : List Int) (root : Int) : List Int := ((gat xs root).map (·.1)).mergeSort fun x y => decide (x ≤ y)
theorem allL_len (xs : List Int) (root : Int) : (allL xs root).length = (gat xs root).length := by simp [allL]
theorem info3' : (Tryz.prog.info? 3).map (fun i => (i.zero, i.size, i.bytes)) = some (some (.int .i64 0), 1, 8) := by kernel_rfl
theorem cell_one (w : World) (x : Value) (t : TypeId) : ∀ j u, [x][j]? = some u → (w.alloc (.cells #[x] t)).cell? ((⟨w.heap.size, 0, none⟩ : Addr).add j) = some u := fun j u hj => by
  rw [Addr.add_lit, Nat.zero_add]
  exact P.cell_of (heap_alloc_new w _) (by simpa using hj)
theorem take_get {l : List (Int × Nat)} {i : Nat} (h : i < l.length) : (l.take (i + 1)).map (·.1) = (l.take i).map (·.1) ++ [(l.getD i (0, 0)).1] := by
  rw [List.take_add_one, List.getElem?_eq_getElem h, List.map_append]
  simp [List.getD, h]
/-- A row's block. -/
theorem row_block {W : World} {n e size m : Nat} {g cap k : Nat} {xs : List Value} (h : W.ownsRow n e size (.slice (some ⟨g, 0, none⟩) m cap) k xs) :
    n ≤ g ∧ ∃ cur, W.heap[g]? = some (.cells cur e (0, 0)) ∧ k ≤ cap ∧ cap ≤ maxLen ∧ cur.size = cap * size ∧ cur.toList.take (k * size) = xs := by
  rcases h.2 with ⟨h, -⟩ | ⟨g', cap', cur, hgg, hb, hgh, h1, h2, h3, htk⟩
  · cases h
  · injection hgg with a b c
    injection a with a
    injection a with a
    subst a c
    exact ⟨hb, cur, hgh, h1, h2, h3, htk⟩
section
variable {u : Si} {w : World} {t : Nat} {st o root : Int} {s : Sm} {k : Nat}
set_option maxHeartbeats 400000 in
theorem all_no (hT : IsT u w t st o root) (hs : st ≠ 1) :
    Calls Tryz.prog 16 #[.pointer (some ⟨t, 0, none⟩)] w fun r w' => r = .returned (.slice none 0 0) ∧ w' = w := by
  have HL := hid (isLive_at hT)
  have hb : (st == 1) = false := by simpa using hs
  rw [hb] at HL
  clear hT hs hb
  go_enter Tryz.func16, Tryz.ntmps16
  go_wp2_with fail
  refine HL.out.mono ?_
  rintro e w' ⟨rfl, hw'⟩
  rw [hw']
  clear hw' w'
  go_wp2
  go_ret
  exact ⟨rfl, rfl⟩
set_option maxHeartbeats 400000 in
theorem all_nil (w : World) :
    Calls Tryz.prog 16 #[.pointer none] w fun r w' => r = .returned (.slice none 0 0) ∧ w' = w := by
  have HL := hid (isLive_nil w)
  go_enter Tryz.func16, Tryz.ntmps16
  go_wp2_with fail
  refine HL.out.mono ?_
  rintro e w' ⟨rfl, hw'⟩
  rw [hw']
  clear hw' w'
  go_wp2
  go_ret
  exact ⟨rfl, rfl⟩
set_option maxRecDepth 100000 in
set_option maxHeartbeats 2000000 in
theorem all_at (hT : IsT u w t 1 o root) (h : Wo u w s k) :
    Calls Tryz.prog 16 #[.pointer (some ⟨t, 0, none⟩)] w fun r w' => ∃ v, r = .returned v ∧ w'.ownsRow w.heap.size 3 1 v (allL s.xs root).length ((allL s.xs root).map (Value.int .i64)) ∧ Below w.heap.size w w' := by
  obtain ⟨i0, hi, hz0, hz1, hz2⟩ := info_parts info3'
  have HINF := hid (And.intro hi (And.intro hz0 (And.intro hz1 hz2)))
  have HLV := hid (isLive_at hT)
  rw [show ((1 : Int) == 1) = true from rfl] at HLV
  have HTP := hid (top_at hT)
  have HGA := hid (fun W (b : Below w.heap.size w W) => gather_at (hT.below b) (h.below b))
  have hal : allL s.xs root = ((gat s.xs root).map (·.1)).mergeSort fun x y => decide (x ≤ y) := rfl
  have HAL := hid hal
  have hgl := gat_len s.xs root
  have hlen : allL s.xs root = allL s.xs root → (allL s.xs root).length = (gat s.xs root).length := fun _ => allL_len _ _
  have HALN := hid (hlen rfl)
  have hg1 : 1 ≤ (gat s.xs root).length := by rw [gat_self]; simp
  generalize allL s.xs root = AL at *
  generalize gat s.xs root = G at *
  obtain ⟨n, hn⟩ : ∃ n, G.length = n + 1 := ⟨G.length - 1, by omega⟩
  have HN := hid hn
  have hn5 : n ≤ 5000 := by omega
  clear hT h hal hlen hg1 hgl hi hz0 hz1 hz2 hn
  go_enter Tryz.func16, Tryz.ntmps16
  go_wp2_with fail
  refine HLV.out.mono ?_
  rintro e w' ⟨rfl, hw'⟩
  rw [hw']
  clear hw' w'
  go_wp2_with fail
  refine HTP.out.mono ?_
  rintro e w1 ⟨rfl, hB1⟩
  have HG1 := hid (HGA.out w1 hB1)
  have HB1 := hid hB1
  clear hB1 HGA
  go_wp2_with fail
  refine HG1.out.mono ?_
  rintro e w2 ⟨⟨v, rfl, hrow⟩, hB2⟩
  rw [HN.out] at hrow
  obtain ⟨g, cap, rfl⟩ := ownsRow_succ hrow
  obtain ⟨hgb, cur, hgh, hgc, -, -, htk⟩ := row_block hrow
  have hcell : ∀ j y, (tbL G)[j]? = some y → j < (n + 1) * 2 → cur[j]? = some y := fun j y hj hl => by
    rw [← htk] at hj
    rw [List.getElem?_take_of_lt hl] at hj
    simpa using hj
  have HCE := hid hcell
  have HGH := hid hgh
  have HB2 := hid (HB1.out.trans (hB2.mono HB1.out.size))
  clear hB2 hrow hgb hgh htk hcell HG1
  go_wp2
  go_loopw [3, 15] (fun v p wr => ∃ i : Nat, p = .int .i64 i ∧ i ≤ n + 1 ∧ wr.ownsRow w.heap.size 3 1 v i (((G.take i).map (·.1)).map (Value.int .i64)) ∧ wr.heap[g]? = some (.cells cur 93 (0, 0)) ∧ Below w.heap.size w wr) (fun _ p _ => n + 1 - (intOf p).toNat)
  case atStart => exact ⟨0, rfl, Nat.zero_le _, ⟨by simp, .inl ⟨rfl, rfl⟩⟩, HGH.out, HB2.out⟩
  case round =>
    obtain ⟨i, rfl, hi, hrow, hgr, hBr⟩ := hrel
    have HROW := hid hrow
    have HGR := hid hgr
    have HBR := hid hBr
    by_cases hlt : i < n + 1
    · obtain ⟨d0, d1⟩ := tbL_at G i (by rw [HN.out]; exact hlt)
      have c0 := P.cell_of hgr (HCE.out _ _ d0 (by omega))
      have c1 := P.cell_of hgr (HCE.out _ _ d1 (by omega))
      have HTK := hid (take_get (l := G) (i := i) (by rw [HN.out]; exact hlt))
      generalize G.getD i (0, 0) = x at *
      obtain ⟨xf, xv⟩ := x
      simp only at c0 c1 HTK
      have hlt' : (i : Int) < (n : Int) + 1 := by omega
      have hwr : wrap64 ((i : Int) + 1) = ((i + 1 : Nat) : Int) := by unfold wrap64; omega
      have hsz := HBR.out.size
      obtain ⟨hi3, hz0, hz1, hz2⟩ := HINF.out
      have hco := cell_one (wr.alloc (.cells #[.int .i64 xf, .int .i64 (xv : Nat)] 93)) (.int .i64 xf) 3
      rw [show (wr.alloc (.cells #[.int .i64 xf, .int .i64 (xv : Nat)] 93)).heap.size = wr.heap.size + 1 by simp] at hco
      have HCO := hid hco
      clear hco
      clear d0 d1 hrow hgr hBr
      go_wp2_with (first | (at_builtin; refine wpList_append_own _ rfl _ _ 44 rfl w.heap.size 3 i0 (.int .i64 0) 1 8 Tryz.underlying44 hi3 hz0 hz1 hz2 rfl (by decide) _ _ _ rfl ((HROW.out.alloc _).alloc _) ⟨wr.heap.size + 1, 0, none⟩ 1 1 [.int .i64 xf] rfl rfl HCO.out (by intro u hu; simp at hu; subst hu; rfl) (by unfold maxLen; omega) (by omega) (by simp; omega) ?_; intro v' w3 hown' hg3 hnil3; go_frame) | go_in)
      have hg3' : ((wr.alloc (.cells #[.int .i64 xf, .int .i64 (xv : Nat)] 93)).alloc (.cells #[.int .i64 xf] 3)).grownBy w3 u3.ownBlock := hg3
      have HG3 := hid hg3'
      have HOW := hid hown'
      clear hg3 hg3' hnil3 hown'
      have hnot : ∀ e : some g = u3.ownBlock, False := fun e => by
        have h1 := HROW.out.2
        rcases h1 with ⟨h, -⟩ | ⟨g', cap', cur', hgg, -, hgh, -⟩
        · rw [h] at e; simp [Value.ownBlock] at e
        · rw [hgg] at e
          simp [Value.ownBlock] at e
          subst e
          rw [HGR.out] at hgh
          injection hgh with hgh
          injection hgh with _ hgh _
          cases hgh
      refine ⟨⟨i + 1, by go_num, by omega, ?_, ?_, ?_⟩, by simp [intOf]; omega⟩
      · rw [HTK.out, List.map_append]
        exact HOW.out
      · have := lt_of_block HGR.out
        exact (HG3.out.block g (by simp; omega) hnot).trans (P.hkeep (P.hkeep HGR.out _) _)
      · exact ((HBR.out.alloc HBR.out.size _).alloc (by simp; omega) _).grown HG3.out (by simp; omega) (fun j hj => (HROW.out.lt _ hj).1)
    · obtain rfl : i = n + 1 := by omega
      have htk : G.take (n + 1) = G := by rw [← HN.out, List.take_length]
      rw [htk] at hrow
      obtain ⟨g', cap', rfl⟩ := ownsRow_succ hrow
      obtain ⟨hgb, cur', hgh, h1, h2, h3, h4⟩ := row_block hrow
      have hl : (G.map (·.1)).length = n + 1 := by simp [HN.out]
      have hH : Holds (Value.int .i64) wr g' 0 (G.map (·.1)).toArray := holds_of_blockI hgh (by rw [hl]; simpa using h4)
      have hc := slices_Sort_int g' 0 cap' (G.map (·.1)) wr hH (lt_of_block hgh) (by omega)
      rw [hl, ← HAL.out] at hc
      have HR := hid (fun (m : Nat) (os : Array Obj) => ownsRow_sortedI (w := wr) (n := m) (os := os) (ss := G.map (·.1)) (ts := AL) (by rw [HALN.out]; simp) hgb hgh (by rw [hl]; exact h1) h2 h3)
      rw [hl] at HR
      have HC := hid hc
      have HGB := hid hgb
      have hltn : ¬ (((n + 1 : Nat) : Int) < (n : Int) + 1) := by omega
      clear hrow hgr hBr htk hgb hgh h1 h2 h3 h4 hl hH hc hlt
      go_wp2_with fail
      refine HC.out.mono ?_
      rintro e w4 ⟨rfl, m, os, hw4⟩
      have HW4 := hid hw4
      clear hw4
      go_wp2
      go_ret
      refine ⟨_, rfl, ?_, ?_⟩
      · rw [HW4.out, HALN.out, HN.out]
        have := HR.out m os
        obtain ⟨k1, k2⟩ := this
        refine ⟨k1, ?_⟩
        rcases k2 with k2 | k2
        · exact .inl k2
        · exact .inr k2
      · rw [HW4.out]
        exact HBR.out.grown (grownBy_sortedI _) HBR.out.size (fun j hj => by cases hj; exact HGB.out)
end
end Go.Proofs.YtpfmmlbakbhklaaGreatDoor
