/- The walk of MemAdds: it returns true for every list of words; nothing that lay before is changed. -/
import Derived.Test.YtkfmfnjkaeajeaaT
import Derived.Test.YtkfmfnjkaeajeaaKit2
namespace Go.Proofs.Ytkfmfnjkaeajeaa
open Go.RowKit

/-- The sum of what has been added to word r, from the front. -/
def up (l : List Int) (r : Nat) : Nat → Int
  | 0 => 0
  | i + 1 => up l r i + (if i % 4 = r then l.getD i 0 else 0)
/-- .. and from the back. -/
def dn (l : List Int) (r n : Nat) : Nat → Int
  | 0 => 0
  | i + 1 => dn l r n i + (if (n - 1 - i) % 4 = r then l.getD (n - 1 - i) 0 else 0)
theorem dn_up (l : List Int) (r n : Nat) : ∀ i, i ≤ n → dn l r n i + up l r (n - i) = up l r n
  | 0, _ => by simp [dn]
  | i + 1, h => by
    have ih := dn_up l r n i (by omega)
    have e : n - i = (n - (i + 1)) + 1 := by omega
    rw [e] at ih
    simp only [up] at ih
    have e2 : n - (i + 1) = n - 1 - i := by omega
    rw [e2] at ih ⊢
    simp only [dn]
    omega
theorem dn_all (l : List Int) (r n : Nat) : dn l r n n = up l r n := by
  have := dn_up l r n n (Nat.le_refl _)
  rw [Nat.sub_self] at this
  simpa [up] using this

def four (f : Nat → Int) (d : Int) : St := ⟨[f 0 % 18446744073709551616, f 1 % 18446744073709551616, f 2 % 18446744073709551616, f 3 % 18446744073709551616], d, d⟩
theorem four_add (f : Nat → Int) (d : Int) (c : Nat) (hc : c < 4) (v : Int) : addT (four f d) (c : Int) v = four (fun r => f r + if c = r then v else 0) (d + 1) := by
  have hc' : c = 0 ∨ c = 1 ∨ c = 2 ∨ c = 3 := by omega
  rcases hc' with rfl | rfl | rfl | rfl
  · show St.mk [(f 0 % 18446744073709551616 + v) % 18446744073709551616, _, _, _] (d + 1) (d + 1) = _
    simp [four]
  · show St.mk [_, (f 1 % 18446744073709551616 + v) % 18446744073709551616, _, _] (d + 1) (d + 1) = _
    simp [four]
  · show St.mk [_, _, (f 2 % 18446744073709551616 + v) % 18446744073709551616, _] (d + 1) (d + 1) = _
    simp [four]
  · show St.mk [_, _, _, (f 3 % 18446744073709551616 + v) % 18446744073709551616] (d + 1) (d + 1) = _
    simp [four]
theorem up_add (l : List Int) (i : Nat) : addT (four (fun r => up l r i) i) ((i % 4 : Nat) : Int) (l.getD i 0) = four (fun r => up l r (i + 1)) ((i + 1 : Nat) : Int) := by
  rw [four_add _ _ _ (by omega)]
  rfl
theorem dn_add (l : List Int) (n i : Nat) : addT (four (fun r => dn l r n i) i) (((n - 1 - i) % 4 : Nat) : Int) (l.getD (n - 1 - i) 0) = four (fun r => dn l r n (i + 1)) ((i + 1 : Nat) : Int) := by
  rw [four_add _ _ _ (by omega)]
  rfl
theorem four_cnt (f : Nat → Int) (k : Nat) : Cnt (four f k) k := ⟨Int.natCast_nonneg k, Int.le_refl _, Int.natCast_nonneg k, Int.le_refl _⟩
theorem four_words (f : Nat → Int) (d : Int) : wordsV (four f d) 0 4 = (four f d).xs := rfl

set_option maxRecDepth 100000 in
set_option maxHeartbeats 1000000 in
theorem adds_great (q : Option Addr) (n c : Nat) (w0 : World) (hn : n ≤ maxLen) (h : 100 < n) :
    Calls Try.prog 8 #[.slice q n c] w0 fun e w' => e = .returned (.bool true) ∧ Below w0.heap.size w0 w' := by
  unfold maxLen at hn
  go_enter Try.func8, Try.ntmps8
  go_wp2_with fail
  refine (Kn.new w0 _ 4 (Below.refl _ _) (by decide) (by decide)).mono ?_
  rintro e w1 ⟨p, b, rfl, K, -, -, -⟩
  go_wp2_with fail
  refine (Kn.new w0 _ 4 K.bel (by decide) (by decide)).mono ?_
  rintro e w2 ⟨p', b', rfl, K', -, -, -⟩
  clear K
  go_wp2_with fail
  refine (known_yes _).mono ?_
  rintro e w' ⟨rfl, hw'⟩
  have hB := K'.bel.trans (hw'.mono K'.bel.size)
  clear hw' K'
  go_wp2
  go_ret
  exact ⟨rfl, hB⟩

set_option maxRecDepth 100000 in
set_option maxHeartbeats 1000000 in
theorem adds_small (q : Option Addr) (n c : Nat) (l : List Int) (w0 : World) (hn : n ≤ 100) (hl : l.length = n) (hS : Nums w0 q l) :
    Calls Try.prog 8 #[.slice q n c] w0 fun e w' => e = .returned (.bool true) ∧ Below w0.heap.size w0 w' := by
  have HL : Hid (l.length = n) := hl
  have HS : Hid (Nums w0 q l) := hS
  clear hl hS
  go_enter Try.func8, Try.ntmps8
  go_wp2_with fail
  refine (Kn.new w0 _ 4 (Below.refl _ _) (by decide) (by decide)).mono ?_
  rintro e w1 ⟨p, b, rfl, K, -, -, -⟩
  go_wp2_with fail
  refine (Kn.new w1 _ 4 (Below.refl _ _) (by decide) (by decide)).mono ?_
  rintro e w2 ⟨p', b', rfl, K', hp', hb', hB'⟩
  have T : Two 53 w0 w2 p b (four (fun r => up l r 0) (0 : Nat)) p' b' (four (fun r => dn l r n 0) (0 : Nat)) := Two.mk' K K'.mem hp' hb' hB'
  clear K K' hp' hb' hB'
  go_wp2
  go_loopw [7] (fun i wr => ∃ j : Nat, j ≤ n ∧ i = .int .i64 j ∧ Two 53 w0 wr p b (four (fun r => up l r j) j) p' b' (four (fun r => dn l r n j) j)) (fun i _ => n - (intOf i).toNat)
  case atStart => exact ⟨0, Nat.zero_le _, rfl, T⟩
  case round =>
    clear T
    obtain ⟨j, hj, rfl, T⟩ := hrel
    have HJ : Hid (j ≤ bnd) := by show _ ≤ _; unfold bnd; omega
    by_cases hlt : j < n
    · obtain ⟨sb, off, rfl, hsb, hcell⟩ := HS.out (by have := HL.out; intro e; rw [e] at this; simp at this; omega)
      have o1 := hcell j (by rw [HL.out]; exact hlt)
      have o2 := hcell (n - 1 - j) (by rw [HL.out]; omega)
      have c1 := (T.bel.cell (p := ⟨sb, off + j, none⟩) hsb).trans o1
      obtain ⟨a1, ha1⟩ : ∃ a : Int, (j : Int) % 4 = a := ⟨_, rfl⟩
      have HA1 : Hid (a1 = ((j % 4 : Nat) : Int)) := by show _ = _; omega
      obtain ⟨x1, hx1⟩ : ∃ x, l.getD j 0 = x := ⟨_, rfl⟩
      have HX1 : Hid (l.getD j 0 = x1) := hx1
      rw [hx1] at c1
      obtain ⟨i2, hi2⟩ : ∃ i2 : Nat, n - 1 - j = i2 := ⟨_, rfl⟩
      have hi2' : (n : Int) - 1 - j = i2 := by omega
      obtain ⟨x2, hx2⟩ : ∃ x, l.getD i2 0 = x := ⟨_, rfl⟩
      rw [hi2, hx2] at o2
      have HI2 : Hid (n - 1 - j = i2 ∧ (n : Int) - 1 - j = i2 ∧ l.getD i2 0 = x2) := ⟨hi2, hi2', hx2⟩
      have hi2n : i2 < n := by omega
      have HO2 : Hid (w0.cell? ⟨sb, off + i2, none⟩ = some (.int .u64 x2)) := o2
      have HB0 : Hid (sb < w0.heap.size) := hsb
      clear o1 o2 hx1 hcell HS HL hi2 hi2' hx2 hsb
      have HU : Hid (addT (four (fun r => up l r j) j) a1 x1 = four (fun r => up l r (j + 1)) ((j + 1 : Nat) : Int)) := by
        show _ = _
        rw [HA1.out, ← HX1.out]; exact up_add l j
      go_wp2_with fail
      refine (add_any T.m1 (four_cnt _ _) HJ.out a1 x1).mono ?_
      rintro e w3 ⟨rfl, hT⟩
      rw [HU.out] at hT
      have T3 := T.left hT
      clear hT T c1 ha1 HU HA1
      have c2 := (T3.bel.cell (p := ⟨sb, off + i2, none⟩) HB0.out).trans HO2.out
      obtain ⟨a2, ha2⟩ : ∃ a : Int, (i2 : Int) % 4 = a := ⟨_, rfl⟩
      have HD : Hid (addT (four (fun r => dn l r n j) j) a2 x2 = four (fun r => dn l r n (j + 1)) ((j + 1 : Nat) : Int)) := by
        show _ = _
        obtain ⟨q1, q2, q3⟩ := HI2.out
        have e : a2 = (((n - 1 - j) % 4 : Nat) : Int) := by rw [q1]; omega
        rw [e, ← q3, ← q1]; exact dn_add l n j
      rw [HI2.out.2.1]
      generalize loadV (four (fun r => up l r j) j) a1 = g1
      generalize errV (four (fun r => up l r j) j) a1 = g2
      go_wp2_with fail
      refine (add_any T3.m2 (four_cnt _ _) HJ.out a2 x2).mono ?_
      rintro e w4 ⟨rfl, hT⟩
      rw [HD.out] at hT
      have T4 := T3.right hT
      clear hT T3 c2 ha2 HD
      generalize loadV (four (fun r => dn l r n j) j) a2 = g3
      generalize errV (four (fun r => dn l r n j) j) a2 = g4
      go_wp2
      go_roundw
      case rel => exact ⟨j + 1, by omega, by go_num, T4⟩
      case measure => simp [intOf]; omega
    · have hjn : j = n := by omega
      subst hjn
      have e : (fun r => dn l r j j) = fun r => up l r j := by funext r; exact dn_all l r j
      rw [e] at T
      clear e
      go_wp2_with fail
      refine (words_any T.m1 0 4 (by decide)).mono ?_
      rintro e w3 ⟨v3, rfl, L3, hB3⟩
      have T3 := T.below hB3
      clear T hB3
      obtain ⟨_, q3, k3, rfl, _⟩ := id L3
      go_wp2_with fail
      refine (words_any T3.m2 0 4 (by decide)).mono ?_
      rintro e w4 ⟨v4, rfl, L4, hB4⟩
      have T4 := T3.below hB4
      have L3' := L3.below hB4
      clear T3 hB4 L3
      obtain ⟨_, q4, k4, rfl, _⟩ := id L4
      go_wp2_with fail
      refine (same_any L3' L4).mono ?_
      rintro e w5 ⟨rfl, hB5⟩
      have T5 := T4.below hB5
      clear T4 hB5 L3' L4
      go_wp2_with fail
      refine (known_yes _).mono ?_
      rintro e w' ⟨rfl, hw'⟩
      have hB := T5.bel.trans (hw'.mono T5.bel.size)
      clear hw' T5
      go_wp2
      go_ret
      exact ⟨rfl, hB⟩

theorem adds_walk (q : Option Addr) (n c : Nat) (l : List Int) (w0 : World) (hn : n ≤ maxLen) (hl : l.length = n) (hS : Nums w0 q l) :
    Calls Try.prog 8 #[.slice q n c] w0 fun e w' => e = .returned (.bool true) ∧ Below w0.heap.size w0 w' := by
  by_cases h : 100 < n
  · exact adds_great q n c w0 hn h
  · exact adds_small q n c l w0 (by omega) hl hS
end Go.Proofs.Ytkfmfnjkaeajeaa
