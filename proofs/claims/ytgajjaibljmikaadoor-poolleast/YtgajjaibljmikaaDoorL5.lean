/- That PoolLeast returns true, for every size of a pool and every list of small numbers; nothing that lay before is changed. Condition: the table of rules lies in its variable as the program's text lays it. -/
import Derived.Test.YtgajjaibljmikaaDoorL7
import Derived.Test.YtgajjaibljmikaaDoorQ2
import Derived.Test.YtgajjaibljmikaaDoorSc
namespace Go.Proofs.YtgajjaibljmikaaDoor
open Go.RowKit

set_option maxRecDepth 100000 in
set_option maxHeartbeats 4000000 in
theorem least_true (n : Nat) (hn : n < 256) {q : Option Addr} {m c : Nat} {g : Nat → Nat} (w' : World) (hg : PL w' q m g) (hT : Tab w') : Calls Tryd.prog 5 #[.int .u8 n, .slice q m c] w' fun v w2 => v = .returned (.bool true) ∧ Below w'.heap.size w' w2 := by
  have HT := hid hT
  obtain ⟨hm0, hg256, hcells⟩ := hg
  have hm : m ≤ 9223372036854775807 := by unfold maxLen at hm0; omega
  have HG := hid hg256
  have HC := hid hcells
  clear hT hg256 hcells hm0
  obtain ⟨N, hN⟩ : ∃ N : Nat, N = n + 1 := ⟨_, rfl⟩
  have hN1 : (1 : Int) + n = N := by omega
  have hN2 : N ≤ 256 := by omega
  have hN3 : 1 ≤ N := by omega
  have HN1 := hid hN1
  have HN := hid hN
  clear hN1 hN
  go_enter Tryd.func5, Tryd.ntmps5
  go_wp2_with fail
  rw [HN1.out]
  refine (Ow.new (n := N) HT.out (Below.refl _ _) HT.out.pos hN3 (by omega)).mono ?_
  rintro v w1 ⟨rfl, hO, -⟩
  have O1 := hid hO
  clear hO
  generalize w'.heap.size + 1 = p at O1
  generalize w'.heap.size = b at O1
  by_cases h40 : 40 < m
  · go_wp2_with fail
    refine (known_yes _ O1.out.tab).mono ?_
    rintro v w9 ⟨rfl, hB⟩
    have O8 := hid (O1.out.below hB)
    clear hB
    go_wp2
    go_ret
    exact ⟨rfl, O8.out.bel⟩
  · go_wp2
    go_loopw [8] (fun i wr => ∃ (j : Nat) (L : List Ds), j ≤ N ∧ i = .int .i64 (j : Nat) ∧ Ow w' wr p b L ∧ F1 L N j) (fun i _ => N - (intOf i).toNat)
    case atStart => exact ⟨0, _, Nat.zero_le _, rfl, O1.out, F1.zero N⟩
    case round =>
      obtain ⟨j, L, hj, rfl, hO, hF⟩ := hrel
      have Or := hid hO
      have HF := hid hF
      clear hO hF
      by_cases hlt : j < N
      · have HX := hid (HF.out.next hlt)
        go_wp2_with fail
        refine (Or.out.take 2 0 j 0 _ HX.out.1.1 HX.out.1.2.1 HX.out.1.2.2).mono ?_
        rintro v w3 ⟨rfl, hO, -⟩
        have O3 := hid hO
        clear hO
        go_wp2
        go_roundw
        case rel => exact ⟨j + 1, _, by omega, by go_num, O3.out, HX.out.2⟩
        case measure => simp [intOf]; omega
      · obtain rfl : j = N := by omega
        have HF2 := hid HF.out.all
        go_wp2
        go_loopw [11] (fun i wr => ∃ (s : Nat) (L : List Ds), s ≤ m ∧ i = .int .i64 (s : Nat) ∧ Ow w' wr p b L ∧ F2 L j) (fun i _ => m - (intOf i).toNat)
        case atStart => exact ⟨0, _, Nat.zero_le _, rfl, Or.out, HF2.out⟩
        case round =>
          obtain ⟨s, K, hs, rfl, hO, hF⟩ := hrel
          have Os := hid hO
          have HK := hid hF
          clear hO hF
          by_cases hsm : s < m
          · obtain ⟨B, off, rfl, hB, hcell⟩ := HC.out (by omega)
            have c0 := (Os.out.bel.cell (p := ⟨B, off + s, none⟩) hB).trans (hcell s hsm)
            have gb := HG.out s
            generalize g s = gs at c0 gb
            clear hcell hB
            obtain ⟨k, hk, hkN⟩ : ∃ k : Nat, (gs : Int) % (j : Int) = k ∧ k < j := ⟨gs % j, (Int.natCast_emod gs j).symm, Nat.mod_lt _ (by omega)⟩
            have HGv := hid (HK.out.give hkN)
            have HTk := hid (HK.out.take hkN (o := 1 + (s : Int) % 16) ⟨by omega, by omega⟩)
            have HKE := hid hk
            clear hk
            go_wp2_with fail
            rw [HKE.out]
            refine (Os.out.give k 0 _ HGv.out.1 HGv.out.2).mono ?_
            rintro v w3 ⟨rfl, hO, -⟩
            have O3 := hid hO
            clear hO
            go_wp2_with fail
            refine (O3.out.take 4 (1 + (s : Int) % 16) k 0 _ HTk.out.1.1 HTk.out.1.2.1 HTk.out.1.2.2).mono ?_
            rintro v w4 ⟨rfl, hO, -⟩
            have O4 := hid hO
            clear hO
            go_wp2
            go_roundw
            case rel => exact ⟨s + 1, _, by omega, by go_num, O4.out, HTk.out.2⟩
            case measure => simp [intOf]; omega
          · obtain rfl : s = m := by omega
            have HX := hid (HK.out.full 4 1)
            go_wp2_with fail
            refine (Os.out.take 4 1 0 12 K HX.out.2.1 HX.out.1 HX.out.2.2.1).mono ?_
            rintro v w3 ⟨rfl, hO, -⟩
            have O3 := hid hO
            clear hO
            go_wp2_with fail
            refine (O3.out.count 0 0 HX.out.2.2.2).mono ?_
            rintro v w4 ⟨rfl, hO, -⟩
            have O4 := hid hO
            clear hO
            go_wp2_with fail
            refine (known_yes _ O4.out.tab).mono ?_
            rintro v w5 ⟨rfl, hB⟩
            have O5 := hid (O4.out.below hB)
            clear hB
            go_wp2
            go_ret
            exact ⟨rfl, O5.out.bel⟩
end Go.Proofs.YtgajjaibljmikaaDoor
