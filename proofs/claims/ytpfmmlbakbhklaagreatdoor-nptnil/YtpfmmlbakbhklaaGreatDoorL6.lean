/- The walk of NptNil: for every page and number it returns true; nothing that lay before is changed. Condition: the rules lie in their variable. -/
import Derived.Test.YtpfmmlbakbhklaaGreatDoorK
namespace Go.Proofs.YtpfmmlbakbhklaaGreatDoor
open Go.RowKit
set_option maxRecDepth 100000 in
set_option maxHeartbeats 2000000 in
theorem nil_walk (w : World) (hT : O.Tab w) (pg n : Int) (h0 : 0 ≤ n) (h1 : n ≤ 255) : Calls Tryz.prog 7 #[.int .i64 pg, .int .u8 n] w fun e w' => e = .returned (.bool true) ∧ Below w.heap.size w w' := by
  have HT := hid hT
  have hb0 := below_alloc w (.cells #[.int .i64 0, .pointer none, .pointer none, .int .i64 0, .int .i64 0] 70)
  have hz := P.cell_of (i := 0) (heap_alloc_new w (.cells #[.int .i64 0, .pointer none, .pointer none, .int .i64 0, .int .i64 0] 70)) rfl
  have HD0 := hid (Dd.zero hz)
  have HB0 := hid hb0
  obtain ⟨m, rfl⟩ := Int.eq_ofNat_of_zero_le h0
  have HM := hid (new_yes (15 + 16 * m) (w.alloc (.cells #[.int .i64 0, .pointer none, .pointer none, .int .i64 0, .int .i64 0] 70)) (by omega) (by omega))
  have HP := hid (fun W => O.new_yes (1 + m) W (by omega) (by omega))
  rw [show (((15 + 16 * m : Nat)) : Int) = 15 + 16 * (m : Int) by omega] at HM
  rw [show (((1 + m : Nat)) : Int) = 1 + (m : Int) by omega] at HP
  have e1 : wrap64 (16 * (m : Int)) = 16 * (m : Int) := by unfold wrap64; omega
  have e2 : wrap64 (15 + 16 * (m : Int)) = 15 + 16 * (m : Int) := by unfold wrap64; omega
  have e3 : wrap64 (1 + (m : Int)) = 1 + (m : Int) := by unfold wrap64; omega
  have HMM := hid h1
  clear hT hb0 hz h0
  go_enter Tryz.func7, Tryz.ntmps7
  go_wp2_with fail
  refine HM.out.mono ?_
  rintro e w1 ⟨rfl, hm, hB1⟩
  obtain ⟨mp, hmp⟩ : ∃ mp, (w.alloc (.cells #[.int .i64 0, .pointer none, .pointer none, .int .i64 0, .int .i64 0] 70)).heap.size + 1 = mp := ⟨_, rfl⟩
  rw [hmp] at hm ⊢
  have HM1 := hid hm
  have HD1 := hid (HD0.out.below hB1)
  have HB1 := hid (HB0.out.trans (hB1.mono HB0.out.size))
  clear hmp hm hB1 HD0 HB0 HM
  go_wp2_with fail
  refine (HP.out w1).mono ?_
  rintro e w2 ⟨rfl, hp, hB2⟩
  obtain ⟨pp, hpp⟩ : ∃ pp, w1.heap.size + 1 = pp := ⟨_, rfl⟩
  rw [hpp] at hp ⊢
  have HL2 := hid (len_at (HM1.out.below hB2))
  have HP2 := hid hp
  have HD2 := hid (HD1.out.below hB2)
  have HB2 := hid (HB1.out.trans (hB2.mono HB1.out.size))
  have HF1 := hid (tnew_few (some ⟨mp, 0, none⟩) _ HL2.out pp _ _ hp (by have := HMM.out; simp only [List.length_replicate]; omega) 1)
  have HF2 := hid (tnew_few none 0 (len_none (isNone_nil w2)) pp _ _ hp (by simp only [List.length_replicate]; omega) 1)
  have HF3 := hid (tnew_nopool (.pointer (some ⟨mp, 0, none⟩)) w2 (.pointer none) (.inl rfl) 1)
  have HN2 := hid (Dd.none w2)
  have HT2 := hid (HT.out.go HB2.out)
  clear hpp hp hB2 HP HD1 HB1 HM1 HL2 HP2
  go_wp2_with fail
  refine HF1.out.mono ?_
  rintro e w3 ⟨rfl, hw3⟩
  rw [hw3]
  clear hw3 w3
  go_wp2_with fail
  refine HF2.out.mono ?_
  rintro e w3 ⟨rfl, hw3⟩
  rw [hw3]
  clear hw3 w3
  go_wp2_with fail
  refine HF3.out.mono ?_
  rintro e w3 ⟨rfl, hw3⟩
  rw [hw3]
  clear hw3 w3
  clear HF1 HF2 HF3
  go_wp2_with fail
  refine (unmap_dead HN2.out pg).mono ?_
  rintro e w4 ⟨rfl, hB⟩
  have HD4 := hid (HD2.out.below hB)
  have HN4 := hid (HN2.out.below hB)
  have HB4 := hid (HB2.out.trans (hB.mono HB2.out.size))
  have HT4 := hid (HT2.out.go hB)
  clear hB HD2 HN2 HB2 HT2
  go_wp2_with fail
  refine (query_dead HD4.out pg).mono ?_
  rintro e w5 ⟨rfl, hB⟩
  have HD5 := hid (HD4.out.below hB)
  have HN5 := hid (HN4.out.below hB)
  have HB5 := hid (HB4.out.trans (hB.mono HB4.out.size))
  have HT5 := hid (HT4.out.go hB)
  clear hB HD4 HN4 HB4 HT4
  go_wp2_with fail
  refine (map_dead HN5.out pg 1 1).mono ?_
  rintro e w6 ⟨rfl, hB⟩
  have HD6 := hid (HD5.out.below hB)
  have HN6 := hid (HN5.out.below hB)
  have HB6 := hid (HB5.out.trans (hB.mono HB5.out.size))
  have HT6 := hid (HT5.out.go hB)
  clear hB HD5 HN5 HB5 HT5
  go_wp2_with fail
  refine (large_dead HD6.out pg 16 1).mono ?_
  rintro e w7 ⟨rfl, hB⟩
  have HD7 := hid (HD6.out.below hB)
  have HN7 := hid (HN6.out.below hB)
  have HB7 := hid (HB6.out.trans (hB.mono HB6.out.size))
  have HT7 := hid (HT6.out.go hB)
  clear hB HD6 HN6 HB6 HT6
  go_wp2_with fail
  refine (protect_dead HN7.out pg 1).mono ?_
  rintro e w' ⟨rfl, hw'⟩
  rw [hw']
  clear hw' w'
  go_wp2_with fail
  refine (drop_dead HN7.out).mono ?_
  rintro e w' ⟨rfl, hw'⟩
  rw [hw']
  clear hw' w'
  go_wp2_with fail
  refine (root_dead HN7.out).mono ?_
  rintro e w' ⟨rfl, hw'⟩
  rw [hw']
  clear hw' w'
  go_wp2_with fail
  refine (root_dead HD7.out).mono ?_
  rintro e w' ⟨rfl, hw'⟩
  rw [hw']
  clear hw' w'
  go_wp2_with fail
  refine (all_dead HD7.out).mono ?_
  rintro e w' ⟨rfl, hw'⟩
  rw [hw']
  clear hw' w'
  go_wp2_with fail
  refine (known_yes w7 HT7.out).mono ?_
  rintro e w8 ⟨rfl, hB⟩
  have HB8 := hid (HB7.out.trans (hB.mono HB7.out.size))
  clear hB
  go_wp2
  go_ret
  exact ⟨rfl, HB8.out⟩
end Go.Proofs.YtpfmmlbakbhklaaGreatDoor
