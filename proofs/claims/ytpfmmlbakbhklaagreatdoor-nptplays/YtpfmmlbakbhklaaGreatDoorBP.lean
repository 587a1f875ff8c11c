/- The walk of NptNil: for every page and number it returns true; nothing that lay before is changed. Condition: the rules lie in their variable. What every statement of this seat shares: the table as the rows list it. -/
import Derived.Test.YtpfmmlbakbhklaaGreatDoorBO
import Derived.Test.YtpfmmlbakbhklaaGreatDoorRows
import Derived.Test.YtpfmmlbakbhklaaGreatDoorBD
import Derived.ProofKit
import Derived.LaidMore
import Derived.OpenShut
import Derived.ShutString
import Derived.ChangeOld
import Derived.Stop.Joined
import Derived.Lib.LaidTab
import Derived.RowKitTokens
import Derived.Lay
import Derived.Stop.LaidErr
namespace Go.Proofs.YtpfmmlbakbhklaaGreatDoor
open Go.RowKit
set_option maxRecDepth 100000 in
set_option maxHeartbeats 2000000 in
theorem nil_walk (w : World) (hT : O.Tab w) (pg n : Int) (h0 : 0 ≤ n) (h1 : n ≤ 255) : Calls Tryz.prog 7 #[.int .i64 pg, .int .u8 n] w fun e w' => e = .returned (.bool true) ∧ Below w.heap.size w w' := by
  have HT := hid hT
  have hb0 := below_alloc w (.cells #[.int .i64 0, .pointer none, .pointer none, .int .i64 0, .int .i64 0] 70)
  have hz := P.cell_of (i := 0) (heap_alloc_new w (.cells #[.int .i64 0, .pointer none, .pointer none, .int .i64 0, .int .i64 0] 70)) rfl
  have HD0 := hid (Dd.zero hz)
  have HB0 := hid hb0
  obtain ⟨m, rfl⟩ := Int.eq_ofNat_of_zero_le h0
  have HM := hid (new_yes (15 + 16 * m) (w.alloc (.cells #[.int .i64 0, .pointer none, .pointer none, .int .i64 0, .int .i64 0] 70)) (by omega) (by omega))
  have HP := hid (fun W => O.new_yes (1 + m) W (by omega) (by omega))
  rw [show (((15 + 16 * m : Nat)) : Int) = 15 + 16 * (m : Int) by omega] at HM
  rw [show (((1 + m : Nat)) : Int) = 1 + (m : Int) by omega] at HP
  have e1 : wrap64 (16 * (m : Int)) = 16 * (m : Int) := by unfold wrap64; omega
  have e2 : wrap64 (15 + 16 * (m : Int)) = 15 + 16 * (m : Int) := by unfold wrap64; omega
  have e3 : wrap64 (1 + (m : Int)) = 1 + (m : Int) := by unfold wrap64; omega
  have HMM := hid h1
  clear hT hb0 hz h0
  go_enter Tryz.func7, Tryz.ntmps7
  go_wp2_with fail
  refine HM.out.mono ?_
  rintro e w1 ⟨rfl, hm, hB1⟩
  obtain ⟨mp, hmp⟩ : ∃ mp, (w.alloc (.cells #[.int .i64 0, .pointer none, .pointer none, .int .i64 0, .int .i64 0] 70)).heap.size + 1 = mp := ⟨_, rfl⟩
  rw [hmp] at hm ⊢
  have HM1 := hid hm
  have HD1 := hid (HD0.out.below hB1)
  have HB1 := hid (HB0.out.trans (hB1.mono HB0.out.size))
  clear hmp hm hB1 HD0 HB0 HM
  go_wp2_with fail
  refine (HP.out w1).mono ?_
  rintro e w2 ⟨rfl, hp, hB2⟩
  obtain ⟨pp, hpp⟩ : ∃ pp, w1.heap.size + 1 = pp := ⟨_, rfl⟩
  rw [hpp] at hp ⊢
  have HL2 := hid (len_at (HM1.out.below hB2))
  have HP2 := hid hp
  have HD2 := hid (HD1.out.below hB2)
  have HB2 := hid (HB1.out.trans (hB2.mono HB1.out.size))
  have HF1 := hid (tnew_few (some ⟨mp, 0, none⟩) _ HL2.out pp _ _ hp (by have := HMM.out; simp only [List.length_replicate]; omega) 1)
  have HF2 := hid (tnew_few none 0 (len_none (isNone_nil w2)) pp _ _ hp (by simp only [List.length_replicate]; omega) 1)
  have HF3 := hid (tnew_nopool (.pointer (some ⟨mp, 0, none⟩)) w2 (.pointer none) (.inl rfl) 1)
  have HN2 := hid (Dd.none w2)
  have HT2 := hid (HT.out.go HB2.out)
  clear hpp hp hB2 HP HD1 HB1 HM1 HL2 HP2
  go_wp2_with fail
  refine HF1.out.mono ?_
  rintro e w3 ⟨rfl, hw3⟩
  rw [hw3]
  clear hw3 w3
  go_wp2_with fail
  refine HF2.out.mono ?_
  rintro e w3 ⟨rfl, hw3⟩
  rw [hw3]
  clear hw3 w3
  go_wp2_with fail
  refine HF3.out.mono ?_
  rintro e w3 ⟨rfl, hw3⟩
  rw [hw3]
  clear hw3 w3
  clear HF1 HF2 HF3
  go_wp2_with fail
  refine (unmap_dead HN2.out pg).mono ?_
  rintro e w4 ⟨rfl, hB⟩
  have HD4 := hid (HD2.out.below hB)
  have HN4 := hid (HN2.out.below hB)
  have HB4 := hid (HB2.out.trans (hB.mono HB2.out.size))
  have HT4 := hid (HT2.out.go hB)
  clear hB HD2 HN2 HB2 HT2
  go_wp2_with fail
  refine (query_dead HD4.out pg).mono ?_
  rintro e w5 ⟨rfl, hB⟩
  have HD5 := hid (HD4.out.below hB)
  have HN5 := hid (HN4.out.below hB)
  have HB5 := hid (HB4.out.trans (hB.mono HB4.out.size))
  have HT5 := hid (HT4.out.go hB)
  clear hB HD4 HN4 HB4 HT4
  go_wp2_with fail
  refine (map_dead HN5.out pg 1 1).mono ?_
  rintro e w6 ⟨rfl, hB⟩
  have HD6 := hid (HD5.out.below hB)
  have HN6 := hid (HN5.out.below hB)
  have HB6 := hid (HB5.out.trans (hB.mono HB5.out.size))
  have HT6 := hid (HT5.out.go hB)
  clear hB HD5 HN5 HB5 HT5
  go_wp2_with fail
  refine (large_dead HD6.out pg 16 1).mono ?_
  rintro e w7 ⟨rfl, hB⟩
  have HD7 := hid (HD6.out.below hB)
  have HN7 := hid (HN6.out.below hB)
  have HB7 := hid (HB6.out.trans (hB.mono HB6.out.size))
  have HT7 := hid (HT6.out.go hB)
  clear hB HD6 HN6 HB6 HT6
  go_wp2_with fail
  refine (protect_dead HN7.out pg 1).mono ?_
  rintro e w' ⟨rfl, hw'⟩
  rw [hw']
  clear hw' w'
  go_wp2_with fail
  refine (drop_dead HN7.out).mono ?_
  rintro e w' ⟨rfl, hw'⟩
  rw [hw']
  clear hw' w'
  go_wp2_with fail
  refine (root_dead HN7.out).mono ?_
  rintro e w' ⟨rfl, hw'⟩
  rw [hw']
  clear hw' w'
  go_wp2_with fail
  refine (root_dead HD7.out).mono ?_
  rintro e w' ⟨rfl, hw'⟩
  rw [hw']
  clear hw' w'
  go_wp2_with fail
  refine (all_dead HD7.out).mono ?_
  rintro e w' ⟨rfl, hw'⟩
  rw [hw']
  clear hw' w'
  go_wp2_with fail
  refine (known_yes w7 HT7.out).mono ?_
  rintro e w8 ⟨rfl, hB⟩
  have HB8 := hid (HB7.out.trans (hB.mono HB7.out.size))
  clear hB
  go_wp2
  go_ret
  exact ⟨rfl, HB8.out⟩
end Go.Proofs.YtpfmmlbakbhklaaGreatDoor
namespace Go.Proofs.YtpfmmlbakbhklaaGreatDoor
open Go.ChangeShapes Go.WideShapes Go.ChangeAt Go.RowKit
set_option maxRecDepth 100000

theorem own : ownKnob Tryz.prog.godebug = none := by kernel_rfl
theorem laidOut : laidOutB Tryz.prog = true := by kernel_rfl
abbrev laidL : List (String × DataW Unit) := [("matryoshka/desc.rules", Rows.laid_matryoshka_desc_rules)]
theorem door_met (os : Os) (args : Array Value) : laidMetH Tryz.prog laidL ((World.laidAll Tryz.prog os laidL).forCall (fun _ _ => 0) ⟨#[], args, []⟩).memory := by
  rw [MakeChecks.laidMetH_plain _ _ _ (by kernel_rfl)]
  exact laidMet_laidAll _ (by kernel_rfl) (by kernel_rfl)
theorem g0 : Tryz.prog.globalNamed "matryoshka/desc.rules" = some 0 := by kernel_rfl
theorem t0 : (Tryz.prog.globals[0]?).map (·.type) = some 250 := by kernel_rfl
theorem cells3 : Tryz.prog.cellsOf 3 = 1 := by kernel_rfl
theorem cells249 : Tryz.prog.cellsOf 249 = 4 := by kernel_rfl
theorem cells250 : Tryz.prog.cellsOf 250 = 24 := by kernel_rfl
theorem cells5 : Tryz.prog.cellsOf 5 = 1 := by kernel_rfl

theorem rule_of_cells {W : World} {base : Nat} {spare : Nat → Bool} {held : Bool} {n : Nat} {cs : List Value} {p : List MemPlace} {a b c d : Int}
    (h : DataW.trod (fun _ => ()) Tryz.prog W base spare held n 249 cs = some (.agg [.lit (.int .i64 a), .lit (.int .i64 b), .lit (.int .i64 c), .lit (.int .i64 d)], p)) : cs = [.int .i64 a, .int .i64 b, .int .i64 c, .int .i64 d] := by
  obtain ⟨xs, k, hk, hxy, hl, hxl, hf⟩ := DataW.trod_struct Tryz.underlying249 h
  rw [cells249] at hl
  match cs, hl, xs, hxl with
  | [v0, v1, v2, v3], _, [y0, y1, y2, y3], _ =>
    have f0 := hf 0 _ rfl
    have f1 := hf 1 _ rfl
    have f2 := hf 2 _ rfl
    have f3 := hf 3 _ rfl
    simp [cells3] at f0 f1 f2 f3
    obtain ⟨z0, e0, d0, _⟩ := DataW.trod_int Tryz.underlying3 f0
    obtain ⟨z1, e1, d1, _⟩ := DataW.trod_int Tryz.underlying3 f1
    obtain ⟨z2, e2, d2, _⟩ := DataW.trod_int Tryz.underlying3 f2
    obtain ⟨z3, e3, d3, _⟩ := DataW.trod_int Tryz.underlying3 f3
    subst d0 d1 d2 d3
    simp at e0 e1 e2 e3 hxy
    obtain ⟨⟨q0, q1, q2, q3⟩, _⟩ := hxy
    rw [e0, e1, e2, e3, q0, q1, q2, q3]

theorem rules_of_head {W : World} {rest : List (String × DataW Unit)} (h : laidMet Tryz.prog (("matryoshka/desc.rules", Rows.laid_matryoshka_desc_rules) :: rest) W) :
    ∀ k, k < 6 → W.cell? ⟨0, k * 4, none⟩ = some (.int .i64 (O.loO k)) ∧ W.cell? ⟨0, k * 4 + 1, none⟩ = some (.int .i64 (O.hiO k)) ∧ W.cell? ⟨0, k * 4 + 2, none⟩ = some (.int .i64 (O.hiR k)) ∧ W.cell? ⟨0, k * 4 + 3, none⟩ = some (.int .i64 (O.hiE k)) := by
  obtain ⟨ps, ⟨g', t', cs, fuel, p, q, hg', ht', hvar, hd, _, _⟩, _⟩ := h
  obtain rfl := Option.some.inj (g0.symm.trans hg')
  obtain rfl := Option.some.inj (t0.symm.trans ht')
  obtain ⟨xs, m, _, ex, hl, hxl, hel⟩ := DataW.trod_array Tryz.underlying250 hd
  rw [cells250] at hl
  have hc : ∀ i, W.cell? ⟨0, i, none⟩ = cs[i]? := fun i => World.var?_cell hg' hvar i
  obtain ⟨cl⟩ := cs
  simp only [] at hl hc hel
  match xs, hxl with
  | [y0, y1, y2, y3, y4, y5], _ =>
    have k0 := hel 0 (by decide)
    have k1 := hel 1 (by decide)
    have k2 := hel 2 (by decide)
    have k3 := hel 3 (by decide)
    have k4 := hel 4 (by decide)
    have k5 := hel 5 (by decide)
    rw [cells249] at k0 k1 k2 k3 k4 k5
    simp [Rows.laid_matryoshka_desc_rules] at ex
    obtain ⟨⟨z0, z1, z2, z3, z4, z5⟩, _⟩ := ex
    obtain ⟨a0, b0⟩ := y0
    obtain ⟨a1, b1⟩ := y1
    obtain ⟨a2, b2⟩ := y2
    obtain ⟨a3, b3⟩ := y3
    obtain ⟨a4, b4⟩ := y4
    obtain ⟨a5, b5⟩ := y5
    simp only [] at z0 z1 z2 z3 z4 z5
    subst z0 z1 z2 z3 z4 z5
    have c0 := rule_of_cells k0
    have c1 := rule_of_cells k1
    have c2 := rule_of_cells k2
    have c3 := rule_of_cells k3
    have c4 := rule_of_cells k4
    have c5 := rule_of_cells k5
    match cl, hl with
    | [v0, v1, v2, v3, v4, v5, v6, v7, v8, v9, v10, v11, v12, v13, v14, v15, v16, v17, v18, v19, v20, v21, v22, v23], _ =>
      simp at c0 c1 c2 c3 c4 c5
      obtain ⟨rfl, rfl, rfl, rfl⟩ := c0
      obtain ⟨rfl, rfl, rfl, rfl⟩ := c1
      obtain ⟨rfl, rfl, rfl, rfl⟩ := c2
      obtain ⟨rfl, rfl, rfl, rfl⟩ := c3
      obtain ⟨rfl, rfl, rfl, rfl⟩ := c4
      obtain ⟨rfl, rfl, rfl, rfl⟩ := c5
      intro k hk
      match k, hk with
      | 0, _ => exact ⟨hc 0, hc 1, hc 2, hc 3⟩
      | 1, _ => exact ⟨hc 4, hc 5, hc 6, hc 7⟩
      | 2, _ => exact ⟨hc 8, hc 9, hc 10, hc 11⟩
      | 3, _ => exact ⟨hc 12, hc 13, hc 14, hc 15⟩
      | 4, _ => exact ⟨hc 16, hc 17, hc 18, hc 19⟩
      | 5, _ => exact ⟨hc 20, hc 21, hc 22, hc 23⟩

theorem tab_of_laid {W : World} (h : laidMetH Tryz.prog laidL W) : O.Tab W := by
  rw [MakeChecks.laidMetH_plain _ _ _ (by kernel_rfl)] at h
  have a := rules_of_head h
  exact ⟨World.block_lt_of_cell? W ⟨0, 0, none⟩ (a 0 (by decide)).1, fun k hk => (a k hk).1, fun k hk => (a k hk).2.1, fun k hk => (a k hk).2.2.1, fun k hk => (a k hk).2.2.2⟩
end Go.Proofs.YtpfmmlbakbhklaaGreatDoor
