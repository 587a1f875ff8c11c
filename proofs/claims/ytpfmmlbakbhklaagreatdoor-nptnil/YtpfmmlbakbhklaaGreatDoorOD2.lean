/- What the map of ways says, and what isWay returns, for every kind from which there are ways and every number: the world's old blocks are as they were. -/
import Derived.Test.YtpfmmlbakbhklaaGreatDoorOD1
import Derived.Maps.OwnOps
namespace Go.Proofs.YtpfmmlbakbhklaaGreatDoor.O
open Go.RowKit Go.Maps

theorem law3 : Keyed Tryz.prog 3 := int_keyed Tryz.underlying3
theorem zero85 (w : World) : (zeroValue 67).run Tryz.prog w = .ok (.int .u64 0) w := by kernel_rfl

/-- The map of ways as a datum. -/
def W0 : DataW Unit := .map []
def W1 : DataW Unit := W0.put (.int .i64 0) (.lit (.int .u64 30))
def W2 : DataW Unit := W1.put (.int .i64 1) (.lit (.int .u64 29))
def W3 : DataW Unit := W2.put (.int .i64 2) (.lit (.int .u64 33))
def W4 : DataW Unit := W3.put (.int .i64 3) (.lit (.int .u64 33))
def W5 : DataW Unit := W4.put (.int .i64 4) (.lit (.int .u64 49))
def W6 : DataW Unit := W5.put (.int .i64 5) (.lit (.int .u64 1))

set_option maxRecDepth 100000 in
set_option maxHeartbeats 400000 in
theorem ways_any (w : World) :
    Calls Tryz.prog 200 #[] w fun e w' => ∃ b, e = .returned (.map (some b)) ∧ w'.ownsMap Tryz.prog 3 (plainElem Tryz.prog 67) b 6 W6 ∧ Below w.heap.size w w' := by
  have hmm := @run_makeMap Tryz.prog
  have h0 := World.ownsMap_made w Tryz.prog 3 (plainElem (H := Unit) Tryz.prog 67)
  have hB : Below w.heap.size w (w.alloc (.map #[] 0)) := (Below.refl _ _).alloc (Nat.le_refl _) _
  have hm : ∀ n, n ≤ 6 → n < maxLen := fun n hn => by unfold maxLen; omega
  obtain ⟨w1, r1, h1, g1⟩ := h0.update law3 Tryz.underlying252 (hm _ (by decide)) (keyOf_int_mk Tryz.underlying3 (a := 0) (by decide)) (plainElem_int Tryz.underlying67 (a := 30) (by decide))
  obtain ⟨w2, r2, h2, g2⟩ := h1.update law3 Tryz.underlying252 (hm _ (by decide)) (keyOf_int_mk Tryz.underlying3 (a := 1) (by decide)) (plainElem_int Tryz.underlying67 (a := 29) (by decide))
  obtain ⟨w3, r3, h3, g3⟩ := h2.update law3 Tryz.underlying252 (hm _ (by decide)) (keyOf_int_mk Tryz.underlying3 (a := 2) (by decide)) (plainElem_int Tryz.underlying67 (a := 33) (by decide))
  obtain ⟨w4, r4, h4, g4⟩ := h3.update law3 Tryz.underlying252 (hm _ (by decide)) (keyOf_int_mk Tryz.underlying3 (a := 3) (by decide)) (plainElem_int Tryz.underlying67 (a := 33) (by decide))
  obtain ⟨w5, r5, h5, g5⟩ := h4.update law3 Tryz.underlying252 (hm _ (by decide)) (keyOf_int_mk Tryz.underlying3 (a := 4) (by decide)) (plainElem_int Tryz.underlying67 (a := 49) (by decide))
  obtain ⟨w6, r6, h6, g6⟩ := h5.update law3 Tryz.underlying252 (hm _ (by decide)) (keyOf_int_mk Tryz.underlying3 (a := 5) (by decide)) (plainElem_int Tryz.underlying67 (a := 1) (by decide))
  have hs : ∀ j, some w.heap.size = some j → w.heap.size ≤ j := fun j hj => by cases hj; exact Nat.le_refl _
  have b1 := hB.grown g1 hB.size hs
  have b2 := b1.grown g2 b1.size hs
  have b3 := b2.grown g3 b2.size hs
  have b4 := b3.grown g4 b3.size hs
  have b5 := b4.grown g5 b4.size hs
  have B6 := hid (b5.grown g6 b5.size hs)
  have H6 := hid h6
  clear b1 b2 b3 b4 b5 g1 g2 g3 g4 g5 g6 h0 h1 h2 h3 h4 h5 h6 hs hm hB
  go_enter Tryz.func200, Tryz.ntmps200
  go_wp2
  go_ret
  exact ⟨_, rfl, H6.out, B6.out⟩

/-- From one kind to another: the number whose bits are the kinds to which there is a way. -/
def wayN : Nat → Nat | 0 => 30 | 1 => 29 | 2 => 33 | 3 => 33 | 4 => 49 | 5 => 1 | _ => 0
theorem look : ∀ (a : Nat), a < 6 → W6.atKey (.int .i64 a) (.lit (.int .u64 0)) = .lit (.int .u64 (wayN a))
  | 0, _ => rfl
  | 1, _ => rfl
  | 2, _ => rfl
  | 3, _ => rfl
  | 4, _ => rfl
  | 5, _ => rfl
  | a + 6, h => absurd h (by omega)

/-- Is there a way? -/
def way (a b : Int) : Bool := fGet (wayN a.toNat) b 1 == 1

set_option maxRecDepth 100000 in
set_option maxHeartbeats 400000 in
theorem isWay_nat (a : Nat) (b : Int) (w : World) (ha : a < 6) :
    Calls Tryz.prog 189 #[.int .i64 a, .int .i64 b] w fun e w' => e = .returned (.bool (way a b)) ∧ Below w.heap.size w w' := by
  have hl := look a ha
  have hN : wayN a < 18446744073709551616 := by
    match a, ha with
    | 0, _ => decide
    | 1, _ => decide
    | 2, _ => decide
    | 3, _ => decide
    | 4, _ => decide
    | 5, _ => decide
  have hW : way a b = (fGet (wayN a) b 1 == 1) := rfl
  rw [hW]
  clear hW
  have hwf : (Lit.int .i64 a).wf = true := by
    match a, ha with
    | 0, _ => decide
    | 1, _ => decide
    | 2, _ => decide
    | 3, _ => decide
    | 4, _ => decide
    | 5, _ => decide
  generalize wayN a = n at *
  have HL := hid hl
  clear hl
  go_enter Tryz.func189, Tryz.ntmps189
  go_wp2_with fail
  refine (ways_any _).mono ?_
  rintro e w1 ⟨m, rfl, hown, hB⟩
  obtain ⟨c, hrun, hat, hwc⟩ := hown.lookup_int law3 Tryz.underlying252 Tryz.underlying67 (zero85 _) (keyOf_int_mk Tryz.underlying3 hwf)
  rw [HL.out] at hat
  obtain rfl : (n : Int) = c := by simpa using hat
  clear hat hwc
  have HB := hid hB
  have HN : Hid ((n : Int) < 18446744073709551616) := hid (by omega)
  clear hB hN
  go_wp2_with fail
  refine (get_any _ _ _ _ (Int.natCast_nonneg _) HN.out).mono ?_
  rintro e w2 ⟨rfl, rfl⟩
  rw [Int.toNat_natCast]
  go_wp2
  go_ret
  exact ⟨ret_bool (by rw [Bool.eq_iff_iff]; simp; omega), HB.out⟩
theorem isWay_at (a b : Int) (w : World) (h : btw a 0 5 = true) :
    Calls Tryz.prog 189 #[.int .i64 a, .int .i64 b] w fun e w' => e = .returned (.bool (way a b)) ∧ Below w.heap.size w w' := by
  have h' := btw_yes.1 h
  obtain ⟨n, rfl⟩ := Int.eq_ofNat_of_zero_le h'.1
  exact isWay_nat n b w (by omega)

theorem gt30 : ∀ k, k < 64 → (fGet 30 (k : Nat) 1 == 1) = decide (1 ≤ k ∧ k ≤ 4) := by decide +kernel
theorem gt29 : ∀ k, k < 64 → (fGet 29 (k : Nat) 1 == 1) = decide (k = 0 ∨ 2 ≤ k ∧ k ≤ 4) := by decide +kernel
theorem gt33 : ∀ k, k < 64 → (fGet 33 (k : Nat) 1 == 1) = decide (k = 5 ∨ k = 0) := by decide +kernel
theorem gt49 : ∀ k, k < 64 → (fGet 49 (k : Nat) 1 == 1) = decide (k = 5 ∨ k = 0 ∨ k = 4) := by decide +kernel
theorem gt1 : ∀ k, k < 64 → (fGet 1 (k : Nat) 1 == 1) = decide (k = 0) := by decide +kernel
theorem way_out (a b : Int) (h : ¬ (0 ≤ b ∧ b < 64)) : way a b = false := by
  unfold way fGet
  rw [if_neg (by rw [isF_iff]; omega)]
  rfl
/-- What a way is, in plain numbers. -/
theorem way_iff (a b : Int) (h : 0 ≤ a ∧ a ≤ 5) : way a b = true ↔
    (a = 0 ∧ 1 ≤ b ∧ b ≤ 4) ∨ (a = 1 ∧ (b = 0 ∨ 2 ≤ b ∧ b ≤ 4)) ∨ ((a = 2 ∨ a = 3) ∧ (b = 5 ∨ b = 0)) ∨ (a = 4 ∧ (b = 5 ∨ b = 0 ∨ b = 4)) ∨ (a = 5 ∧ b = 0) := by
  by_cases hb : 0 ≤ b ∧ b < 64
  · obtain ⟨k, rfl⟩ := Int.eq_ofNat_of_zero_le hb.1
    obtain ⟨n, rfl⟩ := Int.eq_ofNat_of_zero_le h.1
    have hk : k < 64 := by omega
    have hn : n < 6 := by omega
    unfold way
    rw [Int.toNat_natCast]
    match n, hn with
    | 0, _ => rw [show wayN 0 = 30 from rfl, gt30 k hk]; simp; omega
    | 1, _ => rw [show wayN 1 = 29 from rfl, gt29 k hk]; simp; omega
    | 2, _ => rw [show wayN 2 = 33 from rfl, gt33 k hk]; simp; omega
    | 3, _ => rw [show wayN 3 = 33 from rfl, gt33 k hk]; simp; omega
    | 4, _ => rw [show wayN 4 = 49 from rfl, gt49 k hk]; simp; omega
    | 5, _ => rw [show wayN 5 = 1 from rfl, gt1 k hk]; simp
  · rw [way_out a b hb]
    constructor
    · intro h; cases h
    · intro h; omega
end Go.Proofs.YtpfmmlbakbhklaaGreatDoor.O
