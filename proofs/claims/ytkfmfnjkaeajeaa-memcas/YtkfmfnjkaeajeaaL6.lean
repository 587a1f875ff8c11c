/- The walk of MemCas: it returns true for every three words and every number of adds; nothing that lay before is changed. -/
import Derived.Test.YtkfmfnjkaeajeaaW5
namespace Go.Proofs.Ytkfmfnjkaeajeaa
open Go.RowKit

theorem casLoad (c : Int) (k : Nat) (d l : Int) : loadV ⟨[c, (k : Int)], d, l⟩ 1 = k := rfl
theorem casAdd (c : Int) (k : Nat) (d l : Int) (hk : k ≤ 255) : addT ⟨[c, (k : Int)], d, l⟩ 1 1 = ⟨[c, ((k + 1 : Nat) : Int)], d + 1, l + 1⟩ := by
  show St.mk [c, ((k : Int) + 1) % 18446744073709551616] (d + 1) (l + 1) = _
  rw [Int.emod_eq_of_lt (by omega) (by omega)]
  rfl

set_option maxRecDepth 100000 in
set_option maxHeartbeats 1000000 in
theorem cas_walk (v a c : Int) (n : Nat) (hn : n ≤ 255) (w0 : World) :
    Calls Try.prog 6 #[.agg #[.int .u64 v, .int .u64 a, .int .u64 c], .int .u8 n] w0 fun e w' => e = .returned (.bool true) ∧ Below w0.heap.size w0 w' := by
  have key : ∃ (yes : Bool) (x l : Int), yes = (a == v) ∧ (yes = true → x = c) ∧ (yes = false → x = a) ∧ 0 ≤ l ∧ l ≤ 3 ∧ casV ⟨[a, 0], 2, 2⟩ 0 v = yes ∧ casT ⟨[a, 0], 2, 2⟩ 0 v c = ⟨[x, 0], 3, l⟩ := by
    by_cases h : a = v
    · subst h
      exact ⟨true, c, 3, by simp, fun _ => rfl, fun h => (by cases h), by decide, by decide, by simp [casV, there, inB], by simp [casT, there, inB]⟩
    · exact ⟨false, a, 2, by simp [h], fun h => (by cases h), fun _ => rfl, by decide, by decide, by simp [casV, there, inB, h], by simp [casT, there, inB, h]⟩
  obtain ⟨yes, x, l, hy, hx1, hx2, hl0, hl1, hV, hT⟩ := key
  have T1 : Hid (casV ⟨[0 + v, 0], 1, 1⟩ 0 v = true) := by show _ = _; simp [casV, there, inB]
  have T2 : Hid (casT ⟨[v, 0], 1, 1⟩ 0 v a = ⟨[a, 0], 2, 2⟩) := by show _ = _; simp [casT, there, inB]
  have T1' : Hid (casV ⟨[v, 0], 1, 1⟩ 0 v = true) := by show _ = _; simp [casV, there, inB]
  have HV : Hid (casV ⟨[a, 0], 2, 2⟩ 0 v = yes) := hV
  have HT : Hid (casT ⟨[a, 0], 2, 2⟩ 0 v c = ⟨[x, 0], 3, l⟩) := hT
  have HC : Hid ((yes = true ∧ a = v ∧ x = c) ∨ (yes = false ∧ (a == v) = false ∧ x = a)) := by
    show _ ∨ _
    cases yes
    · right; exact ⟨rfl, hy.symm, hx2 rfl⟩
    · left; exact ⟨rfl, by simpa using hy, hx1 rfl⟩
  clear hV hT hy hx1 hx2 T1
  have hB : Below w0.heap.size w0 (w0.alloc (.cells #[.int .u64 v, .int .u64 a, .int .u64 c] 55)) := (Below.refl _ _).alloc (Nat.le_refl _) _
  go_enter Try.func6, Try.ntmps6
  go_wp2_with fail
  refine (Kn.new w0 _ 2 hB (by decide) (by decide)).mono ?_
  rintro e w1 ⟨p, b, rfl, K, -, -, -⟩
  clear hB
  replace K : Kn w0 w1 p b ⟨[0, 0], 0, 0⟩ := K
  go_wp2_with fail
  refine (K.store 0 v 0 ⟨[v, 0], 1, 1⟩ rfl rfl (cnt_mk _ _ _ 9 (by decide) (by decide) (by decide) (by decide) (by decide))).mono ?_
  rintro e w2 ⟨rfl, K2⟩; clear K
  go_wp2_with fail
  refine (K2.cas 0 v a 0 true ⟨[a, 0], 2, 2⟩ rfl T1'.out T2.out (cnt_mk _ _ _ 9 (by decide) (by decide) (by decide) (by decide) (by decide))).mono ?_
  rintro e w3 ⟨rfl, K3⟩; clear K2
  go_wp2_with fail
  refine (K3.cas 0 v c 0 yes ⟨[x, 0], 3, l⟩ rfl HV.out HT.out (cnt_mk _ _ _ 9 (by decide) (by decide) (by decide) hl0 (by omega))).mono ?_
  rintro e w4 ⟨rfl, K4⟩; clear K3
  go_wp2_with fail
  refine (K4.load 0 x 0 ⟨[x, 0], 4, l⟩ rfl rfl rfl (cnt_mk _ _ _ 9 (by decide) (by decide) (by decide) hl0 (by omega))).mono ?_
  rintro e w5 ⟨rfl, K5⟩; clear K4
  replace K5 : Kn w0 w5 p b ⟨[x, ((0 : Nat) : Int)], 4 + (0 : Nat), l + (0 : Nat)⟩ := by simpa using K5
  rcases HC.out with ⟨rfl, rfl, rfl⟩ | ⟨rfl, hav, rfl⟩
  all_goals
    clear HC HV HT T2 T1'
    go_wp2
    go_loopw [16] (fun i wr => ∃ k : Nat, k ≤ n ∧ i = .int .i64 k ∧ Kn w0 wr p b ⟨[x, (k : Int)], 4 + k, l + k⟩) (fun i _ => n - (intOf i).toNat)
    case atStart => exact ⟨0, Nat.zero_le _, rfl, K5⟩
    case round =>
      clear K5
      obtain ⟨k, hk, rfl, K⟩ := hrel
      by_cases hlt : k < n
      · go_wp2_with fail
        refine (K.add 1 1 k 0 ⟨[x, ((k + 1 : Nat) : Int)], 4 + (k + 1 : Nat), l + (k + 1 : Nat)⟩ rfl rfl ?_ ?_).mono ?_
        · rw [casAdd _ _ _ _ (by omega)]; simp; omega
        · exact cnt_mk _ _ _ 300 (by decide) (by omega) (by omega) (by omega) (by omega)
        rintro e w6 ⟨rfl, K6⟩; clear K
        have tk : ((k : Int) != k) = false := by simp
        go_wp2
        go_roundw
        case rel => exact ⟨k + 1, by omega, by go_num, K6⟩
        case measure => simp [intOf]; omega
      · go_wp2_with fail
        refine (known_yes _).mono ?_
        rintro e w' ⟨rfl, hw'⟩
        go_wp2
        go_ret
        exact ⟨rfl, K.bel.trans (hw'.mono K.bel.size)⟩
end Go.Proofs.Ytkfmfnjkaeajeaa
