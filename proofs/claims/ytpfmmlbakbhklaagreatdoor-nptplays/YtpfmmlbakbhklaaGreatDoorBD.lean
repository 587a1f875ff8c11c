/- Plain arithmetic over words of 64 bits, of no program: a field's mask, a field that is got or put, a word's ones, and that the library's way of counting them counts them. No conditions but that a word is below 2^64. What each call of package field's small functions (isField, Mask, Get, Put) returns, for every argument: their contracts; the world is as it was. No conditions but that a word is one of 64 bits. What a descriptor is, as four numbers: when it is right, its word, what may come next; and what each small call of package desc (isKind, between, Right) returns, for every argument. Condition: the package's table lies in its variable as the program's text lays them. What the map of ways says, and what isWay returns, for every kind from which there are ways and every number: the world's old blocks are as they were. What each small call of the document's answer (within, Right, leads, Name) returns, for every argument: the same functions as the program's; the world's old blocks are as they were. What the document's answer's leads and Name return, for every argument; the world's old blocks are as they were. -/
import Derived.Test.YtpfmmlbakbhklaaGreatDoorRows
import Derived.WalkKit
import Derived.WalkSpells
import Derived.WalkLawsBesides
import Derived.Laws.BitsAllLaws
import Derived.Laws.Bits128
import Derived.Laws.Bits64b
import Derived.Maps.AppendAt
import Derived.Deep.QuietTactic
import Derived.Deep.RegionHeld3
import Derived.Maps.OwnOps
namespace Go.Proofs.YtpfmmlbakbhklaaGreatDoor.O
namespace M
def mk (l s : Nat) : Nat := (2 ^ s - 1) * 2 ^ l
def gt (w l s : Nat) : Nat := w / 2 ^ l % 2 ^ s
def pt (w l s v : Nat) : Nat := 2 ^ (l + s) * (w / 2 ^ (l + s)) + (2 ^ l * (v % 2 ^ s) + w % 2 ^ l)

theorem ones_div (s : Nat) (h : s ≤ 64) : 18446744073709551615 / 2 ^ (64 - s) = 2 ^ s - 1 := by
  have e : (18446744073709551616 : Nat) = 2 ^ (64 - s) * 2 ^ s := by
    rw [← Nat.pow_add, show 64 - s + s = 64 by omega]
  have hp : 0 < 2 ^ s := Nat.two_pow_pos s
  have hq : 0 < 2 ^ (64 - s) := Nat.two_pow_pos _
  have e2 : (18446744073709551615 : Nat) = 2 ^ (64 - s) * 2 ^ s - 1 := by omega
  rw [e2]
  apply Nat.div_eq_of_lt_le
  · rw [Nat.mul_comm, Nat.mul_sub]; omega
  · rw [Nat.sub_add_cancel hp, Nat.mul_comm (2 ^ s)]; omega

theorem tb_mk (l s i : Nat) : (mk l s).testBit i = decide (l ≤ i ∧ i < l + s) := by
  unfold mk
  rw [Nat.testBit_mul_two_pow, Nat.testBit_two_pow_sub_one]
  by_cases h1 : l ≤ i <;> by_cases h2 : i < l + s <;> simp [h1, h2] <;> omega

theorem mk_lt (l s : Nat) (h : l + s ≤ 64) : mk l s < 18446744073709551616 := by
  have h1 : (2 ^ s - 1) * 2 ^ l < 2 ^ s * 2 ^ l := Nat.mul_lt_mul_of_pos_right (by have := Nat.two_pow_pos s; omega) (Nat.two_pow_pos l)
  rw [← Nat.pow_add] at h1
  have h2 : 2 ^ (s + l) ≤ 2 ^ 64 := Nat.pow_le_pow_right (by decide) (by omega)
  unfold mk
  omega

theorem and_mk (w l s : Nat) : (w &&& mk l s) / 2 ^ l = gt w l s := by
  apply Nat.eq_of_testBit_eq
  intro i
  unfold gt
  rw [Nat.testBit_div_two_pow, Nat.testBit_and, tb_mk, Nat.testBit_mod_two_pow, Nat.testBit_div_two_pow]
  by_cases h : i < s <;> simp [h] <;> omega

theorem tb_pt (w l s v i : Nat) : (pt w l s v).testBit i = if l ≤ i ∧ i < l + s then v.testBit (i - l) else w.testBit i := by
  unfold pt
  have h1 : w % 2 ^ l < 2 ^ l := Nat.mod_lt _ (Nat.two_pow_pos l)
  have h2 : 2 ^ l * (v % 2 ^ s) + w % 2 ^ l < 2 ^ (l + s) := by
    have : v % 2 ^ s + 1 ≤ 2 ^ s := Nat.mod_lt _ (Nat.two_pow_pos s)
    have := Nat.mul_le_mul_left (2 ^ l) this
    rw [Nat.pow_add]
    rw [Nat.mul_add] at this
    omega
  rw [Nat.testBit_two_pow_mul_add _ h2, Nat.testBit_two_pow_mul_add _ h1, Nat.testBit_div_two_pow, Nat.testBit_mod_two_pow, Nat.testBit_mod_two_pow]
  by_cases a : i < l + s
  · by_cases b : i < l
    · have : ¬ l ≤ i := by omega
      simp [a, b, this]
    · have c : l ≤ i := by omega
      have d : i - l < s := by omega
      simp [a, b, c, d]
  · have c : ¬ (l ≤ i ∧ i < l + s) := by omega
    have d : l + s + (i - (l + s)) = i := by omega
    rw [if_neg a, if_neg c]
    congr 1
    omega

theorem lt_of_tb (x n : Nat) (h : ∀ i, n ≤ i → x.testBit i = false) : x < 2 ^ n := Nat.lt_pow_two_of_testBit x h

theorem tb_high (w i : Nat) (hw : w < 18446744073709551616) (h : 64 ≤ i) : w.testBit i = false :=
  Nat.testBit_lt_two_pow (Nat.lt_of_lt_of_le hw (show 2 ^ 64 ≤ 2 ^ i from Nat.pow_le_pow_right (by decide) h))

theorem pt_lt (w l s v : Nat) (hw : w < 18446744073709551616) (h : l + s ≤ 64) : pt w l s v < 18446744073709551616 := by
  refine lt_of_tb _ 64 fun i hi => ?_
  rw [tb_pt, if_neg (by omega)]
  exact tb_high w i hw hi

theorem gt_lt (w l s : Nat) (hw : w < 18446744073709551616) : gt w l s < 18446744073709551616 := by
  unfold gt
  have h1 : w / 2 ^ l ≤ w := Nat.div_le_self _ _
  have h2 : w / 2 ^ l % 2 ^ s ≤ w / 2 ^ l := Nat.mod_le _ _
  omega

/-- The code's Put, bit by bit. -/
theorem put_eq (w l s v : Nat) (hw : w < 18446744073709551616) (h : l + s ≤ 64) :
    (w &&& (18446744073709551615 - mk l s)) ||| (v * 2 ^ l % 18446744073709551616 &&& mk l s) = pt w l s v := by
  apply Nat.eq_of_testBit_eq
  intro i
  have hm := mk_lt l s h
  have e1 : 18446744073709551615 - mk l s = 2 ^ 64 - (mk l s + 1) := by omega
  rw [tb_pt, Nat.testBit_or, Nat.testBit_and, Nat.testBit_and, e1, Nat.testBit_two_pow_sub_succ hm, tb_mk, show (18446744073709551616 : Nat) = 2 ^ 64 from rfl, Nat.testBit_mod_two_pow, Nat.testBit_mul_two_pow]
  by_cases a : l ≤ i ∧ i < l + s
  · have b : i < 64 := by omega
    simp [a, b]
  · by_cases b : i < 64
    · simp [a, b]
    · have := tb_high w i hw (by omega)
      simp [a, this]

theorem mk_int (l s : Nat) (_h1 : 1 ≤ s) (h2 : l + s ≤ 64) :
    (18446744073709551615 : Int) / 2 ^ (64 - s) * 2 ^ l % 18446744073709551616 = ((mk l s : Nat) : Int) := by
  have hd := ones_div s (by omega)
  have hm := mk_lt l s h2
  have e : (18446744073709551615 : Int) / 2 ^ (64 - s) * 2 ^ l = ((18446744073709551615 / 2 ^ (64 - s) * 2 ^ l : Nat) : Int) := by
    simp
  rw [e, hd]
  unfold mk at hm ⊢
  omega

/-! ones -/
end M
end Go.Proofs.YtpfmmlbakbhklaaGreatDoor.O
namespace Go.Proofs.YtpfmmlbakbhklaaGreatDoor.O
open Go.RowKit

def isF (low size : Int) : Bool := decide (1 ≤ size ∧ size ≤ 64 ∧ 0 ≤ low ∧ low + size ≤ 64)

theorem isF_iff (l s : Int) : isF l s = true ↔ 1 ≤ s ∧ s ≤ 64 ∧ 0 ≤ l ∧ l + s ≤ 64 := by simp [isF]

theorem isF_not (l s : Int) : isF l s = false ↔ ¬ (1 ≤ s ∧ s ≤ 64 ∧ 0 ≤ l ∧ l + s ≤ 64) := by
  rw [← isF_iff]; simp

theorem ret_int {k : IntKind} {a b : Int} (h : a = b) : Ending.returned (.int k a) = .returned (.int k b) := by rw [h]

set_option maxHeartbeats 400000 in
theorem isField_yes (l s : Int) (w : World) (h : isF l s = true) :
    Calls Tryz.prog 168 #[.int .i64 l, .int .i64 s] w fun e w' => e = .returned (.bool true) ∧ w' = w := by
  obtain ⟨h1, h2, h3, h4⟩ := (isF_iff l s).1 h
  have h5 : l ≤ 64 - s := by omega
  clear h h4
  go_enter Tryz.func168, Tryz.ntmps168
  go_wp2
  go_ret
  exact ⟨rfl, rfl⟩

set_option maxHeartbeats 400000 in
theorem isField_no (l s : Int) (w : World) (h : isF l s = false) :
    Calls Tryz.prog 168 #[.int .i64 l, .int .i64 s] w fun e w' => e = .returned (.bool false) ∧ w' = w := by
  have h' := (isF_not l s).1 h
  by_cases h1 : 1 ≤ s
  · by_cases h2 : s ≤ 64
    · by_cases h3 : 0 ≤ l
      · have h5 : ¬ l ≤ 64 - s := by omega
        clear h h'
        go_enter Tryz.func168, Tryz.ntmps168
        go_wp2
        go_ret
        exact ⟨rfl, rfl⟩
      · clear h h'
        go_enter Tryz.func168, Tryz.ntmps168
        go_wp2
        go_ret
        exact ⟨rfl, rfl⟩
    · clear h h'
      go_enter Tryz.func168, Tryz.ntmps168
      go_wp2
      go_ret
      exact ⟨rfl, rfl⟩
  · clear h h'
    go_enter Tryz.func168, Tryz.ntmps168
    go_wp2
    go_ret
    exact ⟨rfl, rfl⟩

theorem isField_any (l s : Int) (w : World) :
    Calls Tryz.prog 168 #[.int .i64 l, .int .i64 s] w fun e w' => e = .returned (.bool (isF l s)) ∧ w' = w := by
  cases h : isF l s
  · exact isField_no l s w h
  · exact isField_yes l s w h

set_option maxHeartbeats 400000 in
theorem mask_yes (l s : Nat) (w : World) (h1 : 1 ≤ s) (h2 : l + s ≤ 64) :
    Calls Tryz.prog 193 #[.int .i64 l, .int .i64 s] w fun e w' => e = .returned (.int .u64 (M.mk l s : Nat)) ∧ w' = w := by
  have HF : Hid (isF (l : Int) (s : Int) = true) := by show isF _ _ = true; rw [isF_iff]; omega
  go_enter Tryz.func193, Tryz.ntmps193
  go_wp2_with (go_at_call 168; refine (isField_yes _ _ _ HF.out).mono ?_; rintro e w' ⟨rfl, rfl⟩)
  go_ret
  exact ⟨ret_int (by rw [IntKind.wrap_u64]; exact M.mk_int l s h1 h2), rfl⟩

set_option maxHeartbeats 400000 in
theorem mask_no (l s : Int) (w : World) (h : isF l s = false) :
    Calls Tryz.prog 193 #[.int .i64 l, .int .i64 s] w fun e w' => e = .returned (.int .u64 0) ∧ w' = w := by
  have HF : Hid (isF l s = false) := h
  clear h
  go_enter Tryz.func193, Tryz.ntmps193
  go_wp2_with (go_at_call 168; refine (isField_no _ _ _ HF.out).mono ?_; rintro e w' ⟨rfl, rfl⟩)
  go_ret
  exact ⟨rfl, rfl⟩

def fMask (l s : Int) : Nat := if isF l s then M.mk l.toNat s.toNat else 0

theorem mask_any (l s : Int) (w : World) :
    Calls Tryz.prog 193 #[.int .i64 l, .int .i64 s] w fun e w' => e = .returned (.int .u64 (fMask l s : Nat)) ∧ w' = w := by
  cases h : isF l s
  · have e : fMask l s = 0 := by simp [fMask, h]
    rw [e]
    exact mask_no l s w h
  · have e : fMask l s = M.mk l.toNat s.toNat := by simp [fMask, h]
    have h' := (isF_iff l s).1 h
    rw [e]
    obtain ⟨l', rfl⟩ := Int.eq_ofNat_of_zero_le (show 0 ≤ l by omega)
    obtain ⟨s', rfl⟩ := Int.eq_ofNat_of_zero_le (show 0 ≤ s by omega)
    simp only [Int.toNat_natCast]
    exact mask_yes l' s' w (by omega) (by omega)

set_option maxHeartbeats 400000 in
theorem get_yes (x l s : Nat) (w : World) (hx : x < 18446744073709551616) (h1 : 1 ≤ s) (h2 : l + s ≤ 64) :
    Calls Tryz.prog 191 #[.int .u64 x, .int .i64 l, .int .i64 s] w fun e w' => e = .returned (.int .u64 (M.gt x l s : Nat)) ∧ w' = w := by
  have HF : Hid (isF (l : Int) (s : Int) = true) := by show isF _ _ = true; rw [isF_iff]; omega
  have HX : Hid (x < 18446744073709551616) := hx
  clear hx
  go_enter Tryz.func191, Tryz.ntmps191
  go_wp2_with (first | (go_at_call 168; refine (isField_yes _ _ _ HF.out).mono ?_; rintro e w' ⟨rfl, rfl⟩) | (go_at_call 193; refine (mask_yes _ _ _ h1 h2).mono ?_; rintro e w' ⟨rfl, rfl⟩))
  go_ret
  refine ⟨ret_int ?_, rfl⟩
  rw [u64_and_nat x _ HX.out (M.mk_lt l s h2), ← M.and_mk]
  simp

set_option maxHeartbeats 400000 in
theorem get_no (x l s : Int) (w : World) (h : isF l s = false) :
    Calls Tryz.prog 191 #[.int .u64 x, .int .i64 l, .int .i64 s] w fun e w' => e = .returned (.int .u64 0) ∧ w' = w := by
  have HF : Hid (isF l s = false) := h
  clear h
  go_enter Tryz.func191, Tryz.ntmps191
  go_wp2_with (go_at_call 168; refine (isField_no _ _ _ HF.out).mono ?_; rintro e w' ⟨rfl, rfl⟩)
  go_ret
  exact ⟨rfl, rfl⟩

def fGet (x : Nat) (l s : Int) : Nat := if isF l s then M.gt x l.toNat s.toNat else 0

theorem get_any (x l s : Int) (w : World) (h0 : 0 ≤ x) (hx : x < 18446744073709551616) :
    Calls Tryz.prog 191 #[.int .u64 x, .int .i64 l, .int .i64 s] w fun e w' => e = .returned (.int .u64 (fGet x.toNat l s : Nat)) ∧ w' = w := by
  cases h : isF l s
  · have e : fGet x.toNat l s = 0 := by simp [fGet, h]
    rw [e]
    exact get_no x l s w h
  · have e : fGet x.toNat l s = M.gt x.toNat l.toNat s.toNat := by simp [fGet, h]
    have h' := (isF_iff l s).1 h
    rw [e]
    obtain ⟨x', rfl⟩ := Int.eq_ofNat_of_zero_le h0
    obtain ⟨l', rfl⟩ := Int.eq_ofNat_of_zero_le (show 0 ≤ l by omega)
    obtain ⟨s', rfl⟩ := Int.eq_ofNat_of_zero_le (show 0 ≤ s by omega)
    simp only [Int.toNat_natCast]
    exact get_yes x' l' s' w (by omega) (by omega) (by omega)

theorem fMask_lt (l s : Int) : fMask l s < 18446744073709551616 := by
  unfold fMask
  split
  · rename_i h; have := (isF_iff l s).1 h; exact M.mk_lt _ _ (by omega)
  · decide

theorem fGet_lt (x : Nat) (l s : Int) (h : x < 18446744073709551616) : fGet x l s < 18446744073709551616 := by
  unfold fGet
  split
  · exact M.gt_lt _ _ _ h
  · decide

end Go.Proofs.YtpfmmlbakbhklaaGreatDoor.O
namespace Go.Proofs.YtpfmmlbakbhklaaGreatDoor.O
open Go.RowKit

theorem ret_bool {x y : Bool} (h : x = y) : Ending.returned (.bool x) = .returned (.bool y) := by rw [h]
theorem hid {p : Prop} (h : p) : Hid p := h
structure Ds where
  k : Int
  o : Int
  r : Int
  e : Int
def dV (d : Ds) : Value := .agg #[.int .i64 d.k, .int .i64 d.o, .int .i64 d.r, .int .i64 d.e]
def btw (n a b : Int) : Bool := decide (a ≤ n ∧ n ≤ b)
theorem btw_yes {n a b : Int} : btw n a b = true ↔ a ≤ n ∧ n ≤ b := by simp [btw]
theorem btw_no {n a b : Int} : btw n a b = false ↔ ¬ (a ≤ n ∧ n ≤ b) := by rw [← btw_yes]; simp

/-- The rows of the table of rules: what the owner is between, the greatest refs, the greatest epoch. -/
def loO : Nat → Int | 3 => 1 | 4 => 1 | _ => 0
def hiO : Nat → Int | 3 => 16 | 4 => 16 | 5 => 16 | _ => 0
def hiR : Nat → Int | 2 => 65535 | 3 => 65535 | 4 => 65535 | _ => 0
def hiE : Nat → Int | 5 => 4294967295 | _ => 0

/-- The table, in its variable. -/
structure Tab (w : World) : Prop where
  pos : 0 < w.heap.size
  lo : ∀ k, k < 6 → w.cell? ⟨0, k * 4, none⟩ = some (.int .i64 (loO k))
  hi : ∀ k, k < 6 → w.cell? ⟨0, k * 4 + 1, none⟩ = some (.int .i64 (hiO k))
  mr : ∀ k, k < 6 → w.cell? ⟨0, k * 4 + 2, none⟩ = some (.int .i64 (hiR k))
  me : ∀ k, k < 6 → w.cell? ⟨0, k * 4 + 3, none⟩ = some (.int .i64 (hiE k))
theorem Tab.below {A B : World} {n : Nat} (hT : Tab A) (h : Below n A B) (hn : 0 < n) (hs : A.heap.size ≤ B.heap.size) : Tab B where
  pos := Nat.lt_of_lt_of_le hT.pos hs
  lo k hk := (h.cell (p := ⟨0, k * 4, none⟩) (by show 0 < n; omega)).trans (hT.lo k hk)
  hi k hk := (h.cell (p := ⟨0, k * 4 + 1, none⟩) (by show 0 < n; omega)).trans (hT.hi k hk)
  mr k hk := (h.cell (p := ⟨0, k * 4 + 2, none⟩) (by show 0 < n; omega)).trans (hT.mr k hk)
  me k hk := (h.cell (p := ⟨0, k * 4 + 3, none⟩) (by show 0 < n; omega)).trans (hT.me k hk)

set_option maxHeartbeats 400000 in
theorem isKind_yes (k : Int) (w : World) (h : btw k 0 5 = true) :
    Calls Tryz.prog 198 #[.int .i64 k] w fun e w' => e = .returned (.bool true) ∧ w' = w := by
  obtain ⟨h1, h2⟩ := btw_yes.1 h
  clear h
  go_enter Tryz.func198, Tryz.ntmps198
  go_wp2
  go_ret
  exact ⟨rfl, rfl⟩
set_option maxHeartbeats 400000 in
theorem isKind_no (k : Int) (w : World) (h : btw k 0 5 = false) :
    Calls Tryz.prog 198 #[.int .i64 k] w fun e w' => e = .returned (.bool false) ∧ w' = w := by
  have h' := btw_no.1 h
  clear h
  by_cases h1 : 0 ≤ k
  · have h2 : ¬ k ≤ 5 := by omega
    clear h'
    go_enter Tryz.func198, Tryz.ntmps198
    go_wp2
    go_ret
    exact ⟨rfl, rfl⟩
  · clear h'
    go_enter Tryz.func198, Tryz.ntmps198
    go_wp2
    go_ret
    exact ⟨rfl, rfl⟩

set_option maxHeartbeats 400000 in
theorem between_any (n a b : Int) (w : World) :
    Calls Tryz.prog 199 #[.int .i64 n, .int .i64 a, .int .i64 b] w fun e w' => e = .returned (.bool (btw n a b)) ∧ w' = w := by
  by_cases h1 : a ≤ n
  · by_cases h2 : n ≤ b
    · have e : btw n a b = true := btw_yes.2 ⟨h1, h2⟩
      rw [e]; clear e
      go_enter Tryz.func199, Tryz.ntmps199
      go_wp2
      go_ret
      exact ⟨rfl, rfl⟩
    · have e : btw n a b = false := btw_no.2 (fun h => h2 h.2)
      rw [e]; clear e
      go_enter Tryz.func199, Tryz.ntmps199
      go_wp2
      go_ret
      exact ⟨rfl, rfl⟩
  · have e : btw n a b = false := btw_no.2 (fun h => h1 h.1)
    rw [e]; clear e
    go_enter Tryz.func199, Tryz.ntmps199
    go_wp2
    go_ret
    exact ⟨rfl, rfl⟩
theorem between_yes (n a b : Int) (w : World) (h : btw n a b = true) :
    Calls Tryz.prog 199 #[.int .i64 n, .int .i64 a, .int .i64 b] w fun e w' => e = .returned (.bool true) ∧ w' = w := by
  rw [← h]; exact between_any n a b w
theorem between_no (n a b : Int) (w : World) (h : btw n a b = false) :
    Calls Tryz.prog 199 #[.int .i64 n, .int .i64 a, .int .i64 b] w fun e w' => e = .returned (.bool false) ∧ w' = w := by
  rw [← h]; exact between_any n a b w

theorem Tab.alloc {w : World} (hT : Tab w) (o : Obj) : Tab (w.alloc o) :=
  hT.below ((Below.refl _ _).alloc (Nat.le_refl _) _) hT.pos (by simp)

set_option maxRecDepth 100000 in
set_option maxHeartbeats 400000 in
theorem right_kind (k : Nat) (o r e : Int) (w : World) (hk : k < 6) (hT : Tab w) :
    Calls Tryz.prog 188 #[.agg #[.int .i64 k, .int .i64 o, .int .i64 r, .int .i64 e]] w fun x w' => x = .returned (.bool (btw o (loO k) (hiO k) && (btw r 0 (hiR k) && btw e 0 (hiE k)))) ∧ Below w.heap.size w w' := by
  have hT' := hT.alloc (.cells #[.int .i64 k, .int .i64 o, .int .i64 r, .int .i64 e] 64)
  have c0 := hT'.lo k hk
  have c1 := hT'.hi k hk
  have c2 := hT'.mr k hk
  have c3 := hT'.me k hk
  have HK : Hid (btw (k : Int) 0 5 = true) := btw_yes.2 ⟨by omega, by omega⟩
  generalize loO k = lo at c0 ⊢
  generalize hiO k = hi at c1 ⊢
  generalize hiR k = mr at c2 ⊢
  generalize hiE k = me at c3 ⊢
  have hB := hid (((Below.refl w.heap.size w).alloc (Nat.le_refl _) (.cells #[.int .i64 k, .int .i64 o, .int .i64 r, .int .i64 e] 64)).alloc (by simp) (.cells #[.int .i64 lo, .int .i64 hi, .int .i64 mr, .int .i64 me] 249))
  clear hT hT'
  go_enter Tryz.func188, Tryz.ntmps188
  go_wp2_with fail
  refine (isKind_yes _ _ HK.out).mono ?_
  rintro x w1 ⟨rfl, rfl⟩
  go_wp2_with fail
  refine (between_any _ _ _ _).mono ?_
  rintro x w1 ⟨rfl, rfl⟩
  cases h1 : btw o lo hi
  · go_wp2
    go_ret
    exact ⟨ret_bool (by rw [h1]; rfl), hB.out⟩
  · go_wp2_with fail
    refine (between_any _ _ _ _).mono ?_
    rintro x w1 ⟨rfl, rfl⟩
    cases h2 : btw r 0 mr
    · go_wp2
      go_ret
      exact ⟨ret_bool (by rw [h1, h2]; rfl), hB.out⟩
    · go_wp2_with fail
      refine (between_any _ _ _ _).mono ?_
      rintro x w1 ⟨rfl, rfl⟩
      go_wp2
      go_ret
      exact ⟨ret_bool (by rw [h1, h2]; rfl), hB.out⟩

set_option maxHeartbeats 400000 in
theorem right_none (k o r e : Int) (w : World) (hk : btw k 0 5 = false) :
    Calls Tryz.prog 188 #[.agg #[.int .i64 k, .int .i64 o, .int .i64 r, .int .i64 e]] w fun x w' => x = .returned (.bool false) ∧ Below w.heap.size w w' := by
  have HK := hid hk
  have hB := hid ((Below.refl w.heap.size w).alloc (Nat.le_refl _) (.cells #[.int .i64 k, .int .i64 o, .int .i64 r, .int .i64 e] 64))
  clear hk
  go_enter Tryz.func188, Tryz.ntmps188
  go_wp2_with fail
  refine (isKind_no _ _ HK.out).mono ?_
  rintro x w1 ⟨rfl, rfl⟩
  go_wp2
  go_ret
  exact ⟨rfl, hB.out⟩

/-- Is it right? -/
def rt (d : Ds) : Bool := btw d.k 0 5 && (btw d.o (loO d.k.toNat) (hiO d.k.toNat) && (btw d.r 0 (hiR d.k.toNat) && btw d.e 0 (hiE d.k.toNat)))
theorem right_at (d : Ds) (w : World) (hT : Tab w) :
    Calls Tryz.prog 188 #[dV d] w fun x w' => x = .returned (.bool (rt d)) ∧ Below w.heap.size w w' := by
  obtain ⟨k, o, r, e⟩ := d
  cases hk : btw k 0 5
  · refine (right_none k o r e w hk).mono fun x w' ⟨a, b⟩ => ⟨a.trans (ret_bool ?_), b⟩
    simp [rt, hk]
  · have h := btw_yes.1 hk
    obtain ⟨n, rfl⟩ := Int.eq_ofNat_of_zero_le h.1
    refine (right_kind n o r e w (by omega) hT).mono fun x w' ⟨a, b⟩ => ⟨a.trans (ret_bool ?_), b⟩
    simp [rt, hk]
theorem right_yes (d : Ds) (w : World) (hT : Tab w) (h : rt d = true) :
    Calls Tryz.prog 188 #[dV d] w fun x w' => x = .returned (.bool true) ∧ Below w.heap.size w w' := by
  rw [← h]; exact right_at d w hT
theorem right_no (d : Ds) (w : World) (hT : Tab w) (h : rt d = false) :
    Calls Tryz.prog 188 #[dV d] w fun x w' => x = .returned (.bool false) ∧ Below w.heap.size w w' := by
  rw [← h]; exact right_at d w hT

/-- What being right says, in plain numbers. -/
theorem rt_iff (d : Ds) : rt d = true ↔ (0 ≤ d.k ∧ d.k ≤ 5 ∧ 0 ≤ d.o ∧ d.o ≤ 16 ∧ 0 ≤ d.r ∧ d.r ≤ 65535 ∧ 0 ≤ d.e ∧ d.e ≤ 4294967295) ∧
    ((d.k ≤ 1 → d.o = 0 ∧ d.r = 0 ∧ d.e = 0) ∧ (d.k = 2 → d.o = 0 ∧ d.e = 0) ∧ (d.k = 3 ∨ d.k = 4 → 1 ≤ d.o ∧ d.e = 0) ∧ (d.k = 5 → d.r = 0)) := by
  obtain ⟨k, o, r, e⟩ := d
  unfold rt
  simp only [Bool.and_eq_true, btw_yes]
  constructor
  · rintro ⟨⟨h0, h5⟩, ⟨a, b⟩, ⟨c, d⟩, f, g⟩
    obtain ⟨n, rfl⟩ := Int.eq_ofNat_of_zero_le h0
    simp only [Int.toNat_natCast] at *
    match n, h5 with
    | 0, _ => simp [loO, hiO, hiR, hiE] at *; omega
    | 1, _ => simp [loO, hiO, hiR, hiE] at *; omega
    | 2, _ => simp [loO, hiO, hiR, hiE] at *; omega
    | 3, _ => simp [loO, hiO, hiR, hiE] at *; omega
    | 4, _ => simp [loO, hiO, hiR, hiE] at *; omega
    | 5, _ => simp [loO, hiO, hiR, hiE] at *; omega
    | n + 6, h => exfalso; omega
  · rintro ⟨⟨h0, h5, h⟩, h1, h2, h3, h4⟩
    obtain ⟨n, rfl⟩ := Int.eq_ofNat_of_zero_le h0
    simp only [Int.toNat_natCast] at *
    match n, h5 with
    | 0, _ => simp [loO, hiO, hiR, hiE] at *; omega
    | 1, _ => simp [loO, hiO, hiR, hiE] at *; omega
    | 2, _ => simp [loO, hiO, hiR, hiE] at *; omega
    | 3, _ => simp [loO, hiO, hiR, hiE] at *; omega
    | 4, _ => simp [loO, hiO, hiR, hiE] at *; omega
    | 5, _ => simp [loO, hiO, hiR, hiE] at *; omega
    | n + 6, h => exfalso; omega

end Go.Proofs.YtpfmmlbakbhklaaGreatDoor.O
namespace Go.Proofs.YtpfmmlbakbhklaaGreatDoor.O
open Go.RowKit Go.Maps

theorem law3 : Keyed Tryz.prog 3 := int_keyed Tryz.underlying3
theorem zero85 (w : World) : (zeroValue 67).run Tryz.prog w = .ok (.int .u64 0) w := by kernel_rfl

/-- The map of ways as a datum. -/
def W0 : DataW Unit := .map []
def W1 : DataW Unit := W0.put (.int .i64 0) (.lit (.int .u64 30))
def W2 : DataW Unit := W1.put (.int .i64 1) (.lit (.int .u64 29))
def W3 : DataW Unit := W2.put (.int .i64 2) (.lit (.int .u64 33))
def W4 : DataW Unit := W3.put (.int .i64 3) (.lit (.int .u64 33))
def W5 : DataW Unit := W4.put (.int .i64 4) (.lit (.int .u64 49))
def W6 : DataW Unit := W5.put (.int .i64 5) (.lit (.int .u64 1))

set_option maxRecDepth 100000 in
set_option maxHeartbeats 400000 in
theorem ways_any (w : World) :
    Calls Tryz.prog 200 #[] w fun e w' => ∃ b, e = .returned (.map (some b)) ∧ w'.ownsMap Tryz.prog 3 (plainElem Tryz.prog 67) b 6 W6 ∧ Below w.heap.size w w' := by
  have hmm := @run_makeMap Tryz.prog
  have h0 := World.ownsMap_made w Tryz.prog 3 (plainElem (H := Unit) Tryz.prog 67)
  have hB : Below w.heap.size w (w.alloc (.map #[] 0)) := (Below.refl _ _).alloc (Nat.le_refl _) _
  have hm : ∀ n, n ≤ 6 → n < maxLen := fun n hn => by unfold maxLen; omega
  obtain ⟨w1, r1, h1, g1⟩ := h0.update law3 Tryz.underlying252 (hm _ (by decide)) (keyOf_int_mk Tryz.underlying3 (a := 0) (by decide)) (plainElem_int Tryz.underlying67 (a := 30) (by decide))
  obtain ⟨w2, r2, h2, g2⟩ := h1.update law3 Tryz.underlying252 (hm _ (by decide)) (keyOf_int_mk Tryz.underlying3 (a := 1) (by decide)) (plainElem_int Tryz.underlying67 (a := 29) (by decide))
  obtain ⟨w3, r3, h3, g3⟩ := h2.update law3 Tryz.underlying252 (hm _ (by decide)) (keyOf_int_mk Tryz.underlying3 (a := 2) (by decide)) (plainElem_int Tryz.underlying67 (a := 33) (by decide))
  obtain ⟨w4, r4, h4, g4⟩ := h3.update law3 Tryz.underlying252 (hm _ (by decide)) (keyOf_int_mk Tryz.underlying3 (a := 3) (by decide)) (plainElem_int Tryz.underlying67 (a := 33) (by decide))
  obtain ⟨w5, r5, h5, g5⟩ := h4.update law3 Tryz.underlying252 (hm _ (by decide)) (keyOf_int_mk Tryz.underlying3 (a := 4) (by decide)) (plainElem_int Tryz.underlying67 (a := 49) (by decide))
  obtain ⟨w6, r6, h6, g6⟩ := h5.update law3 Tryz.underlying252 (hm _ (by decide)) (keyOf_int_mk Tryz.underlying3 (a := 5) (by decide)) (plainElem_int Tryz.underlying67 (a := 1) (by decide))
  have hs : ∀ j, some w.heap.size = some j → w.heap.size ≤ j := fun j hj => by cases hj; exact Nat.le_refl _
  have b1 := hB.grown g1 hB.size hs
  have b2 := b1.grown g2 b1.size hs
  have b3 := b2.grown g3 b2.size hs
  have b4 := b3.grown g4 b3.size hs
  have b5 := b4.grown g5 b4.size hs
  have B6 := hid (b5.grown g6 b5.size hs)
  have H6 := hid h6
  clear b1 b2 b3 b4 b5 g1 g2 g3 g4 g5 g6 h0 h1 h2 h3 h4 h5 h6 hs hm hB
  go_enter Tryz.func200, Tryz.ntmps200
  go_wp2
  go_ret
  exact ⟨_, rfl, H6.out, B6.out⟩

/-- From one kind to another: the number whose bits are the kinds to which there is a way. -/
def wayN : Nat → Nat | 0 => 30 | 1 => 29 | 2 => 33 | 3 => 33 | 4 => 49 | 5 => 1 | _ => 0
theorem look : ∀ (a : Nat), a < 6 → W6.atKey (.int .i64 a) (.lit (.int .u64 0)) = .lit (.int .u64 (wayN a))
  | 0, _ => rfl
  | 1, _ => rfl
  | 2, _ => rfl
  | 3, _ => rfl
  | 4, _ => rfl
  | 5, _ => rfl
  | a + 6, h => absurd h (by omega)

/-- Is there a way? -/
def way (a b : Int) : Bool := fGet (wayN a.toNat) b 1 == 1

set_option maxRecDepth 100000 in
set_option maxHeartbeats 400000 in
theorem isWay_nat (a : Nat) (b : Int) (w : World) (ha : a < 6) :
    Calls Tryz.prog 189 #[.int .i64 a, .int .i64 b] w fun e w' => e = .returned (.bool (way a b)) ∧ Below w.heap.size w w' := by
  have hl := look a ha
  have hN : wayN a < 18446744073709551616 := by
    match a, ha with
    | 0, _ => decide
    | 1, _ => decide
    | 2, _ => decide
    | 3, _ => decide
    | 4, _ => decide
    | 5, _ => decide
  have hW : way a b = (fGet (wayN a) b 1 == 1) := rfl
  rw [hW]
  clear hW
  have hwf : (Lit.int .i64 a).wf = true := by
    match a, ha with
    | 0, _ => decide
    | 1, _ => decide
    | 2, _ => decide
    | 3, _ => decide
    | 4, _ => decide
    | 5, _ => decide
  generalize wayN a = n at *
  have HL := hid hl
  clear hl
  go_enter Tryz.func189, Tryz.ntmps189
  go_wp2_with fail
  refine (ways_any _).mono ?_
  rintro e w1 ⟨m, rfl, hown, hB⟩
  obtain ⟨c, hrun, hat, hwc⟩ := hown.lookup_int law3 Tryz.underlying252 Tryz.underlying67 (zero85 _) (keyOf_int_mk Tryz.underlying3 hwf)
  rw [HL.out] at hat
  obtain rfl : (n : Int) = c := by simpa using hat
  clear hat hwc
  have HB := hid hB
  have HN : Hid ((n : Int) < 18446744073709551616) := hid (by omega)
  clear hB hN
  go_wp2_with fail
  refine (get_any _ _ _ _ (Int.natCast_nonneg _) HN.out).mono ?_
  rintro e w2 ⟨rfl, rfl⟩
  rw [Int.toNat_natCast]
  go_wp2
  go_ret
  exact ⟨ret_bool (by rw [Bool.eq_iff_iff]; simp; omega), HB.out⟩
theorem isWay_at (a b : Int) (w : World) (h : btw a 0 5 = true) :
    Calls Tryz.prog 189 #[.int .i64 a, .int .i64 b] w fun e w' => e = .returned (.bool (way a b)) ∧ Below w.heap.size w w' := by
  have h' := btw_yes.1 h
  obtain ⟨n, rfl⟩ := Int.eq_ofNat_of_zero_le h'.1
  exact isWay_nat n b w (by omega)

theorem gt30 : ∀ k, k < 64 → (fGet 30 (k : Nat) 1 == 1) = decide (1 ≤ k ∧ k ≤ 4) := by decide +kernel
theorem gt29 : ∀ k, k < 64 → (fGet 29 (k : Nat) 1 == 1) = decide (k = 0 ∨ 2 ≤ k ∧ k ≤ 4) := by decide +kernel
theorem gt33 : ∀ k, k < 64 → (fGet 33 (k : Nat) 1 == 1) = decide (k = 5 ∨ k = 0) := by decide +kernel
theorem gt49 : ∀ k, k < 64 → (fGet 49 (k : Nat) 1 == 1) = decide (k = 5 ∨ k = 0 ∨ k = 4) := by decide +kernel
theorem gt1 : ∀ k, k < 64 → (fGet 1 (k : Nat) 1 == 1) = decide (k = 0) := by decide +kernel
theorem way_out (a b : Int) (h : ¬ (0 ≤ b ∧ b < 64)) : way a b = false := by
  unfold way fGet
  rw [if_neg (by rw [isF_iff]; omega)]
  rfl
/-- What a way is, in plain numbers. -/
theorem way_iff (a b : Int) (h : 0 ≤ a ∧ a ≤ 5) : way a b = true ↔
    (a = 0 ∧ 1 ≤ b ∧ b ≤ 4) ∨ (a = 1 ∧ (b = 0 ∨ 2 ≤ b ∧ b ≤ 4)) ∨ ((a = 2 ∨ a = 3) ∧ (b = 5 ∨ b = 0)) ∨ (a = 4 ∧ (b = 5 ∨ b = 0 ∨ b = 4)) ∨ (a = 5 ∧ b = 0) := by
  by_cases hb : 0 ≤ b ∧ b < 64
  · obtain ⟨k, rfl⟩ := Int.eq_ofNat_of_zero_le hb.1
    obtain ⟨n, rfl⟩ := Int.eq_ofNat_of_zero_le h.1
    have hk : k < 64 := by omega
    have hn : n < 6 := by omega
    unfold way
    rw [Int.toNat_natCast]
    match n, hn with
    | 0, _ => rw [show wayN 0 = 30 from rfl, gt30 k hk]; simp; omega
    | 1, _ => rw [show wayN 1 = 29 from rfl, gt29 k hk]; simp; omega
    | 2, _ => rw [show wayN 2 = 33 from rfl, gt33 k hk]; simp; omega
    | 3, _ => rw [show wayN 3 = 33 from rfl, gt33 k hk]; simp; omega
    | 4, _ => rw [show wayN 4 = 49 from rfl, gt49 k hk]; simp; omega
    | 5, _ => rw [show wayN 5 = 1 from rfl, gt1 k hk]; simp
  · rw [way_out a b hb]
    constructor
    · intro h; cases h
    · intro h; omega
end Go.Proofs.YtpfmmlbakbhklaaGreatDoor.O
namespace Go.Proofs.YtpfmmlbakbhklaaGreatDoor.O
open Go.RowKit

set_option maxHeartbeats 400000 in
theorem within_any (n b : Int) (w : World) :
    Calls Tryz.prog 190 #[.int .i64 n, .int .i64 b] w fun e w' => e = .returned (.bool (btw n 0 b)) ∧ w' = w := by
  by_cases h1 : 0 ≤ n
  · by_cases h2 : n ≤ b
    · have e : btw n 0 b = true := btw_yes.2 ⟨h1, h2⟩
      rw [e]; clear e
      go_enter Tryz.func190, Tryz.ntmps190
      go_wp2
      go_ret
      exact ⟨rfl, rfl⟩
    · have e : btw n 0 b = false := btw_no.2 (fun h => h2 h.2)
      rw [e]; clear e
      go_enter Tryz.func190, Tryz.ntmps190
      go_wp2
      go_ret
      exact ⟨rfl, rfl⟩
  · have e : btw n 0 b = false := btw_no.2 (fun h => h1 h.1)
    rw [e]; clear e
    go_enter Tryz.func190, Tryz.ntmps190
    go_wp2
    go_ret
    exact ⟨rfl, rfl⟩
theorem within_yes (n b : Int) (w : World) (h : btw n 0 b = true) :
    Calls Tryz.prog 190 #[.int .i64 n, .int .i64 b] w fun e w' => e = .returned (.bool true) ∧ w' = w := by
  rw [← h]; exact within_any n b w
theorem within_no (n b : Int) (w : World) (h : btw n 0 b = false) :
    Calls Tryz.prog 190 #[.int .i64 n, .int .i64 b] w fun e w' => e = .returned (.bool false) ∧ w' = w := by
  rw [← h]; exact within_any n b w

theorem below_one (w : World) (o : Obj) : Below w.heap.size w (w.alloc o) := (Below.refl _ _).alloc (Nat.le_refl _) _

set_option maxRecDepth 100000 in
set_option maxHeartbeats 400000 in
theorem rright_out (k o r e : Int) (w : World) (h : (btw k 0 5 && (btw o 0 16 && (btw r 0 65535 && btw e 0 4294967295))) = false) :
    Calls Tryz.prog 155 #[.agg #[.int .i64 k, .int .i64 o, .int .i64 r, .int .i64 e]] w fun x w' => x = .returned (.bool false) ∧ Below w.heap.size w w' := by
  have hB := hid (below_one w (.cells #[.int .i64 k, .int .i64 o, .int .i64 r, .int .i64 e] 91))
  cases h1 : btw k 0 5
  · have H1 := hid h1
    clear h h1
    go_enter Tryz.func155, Tryz.ntmps155
    go_wp2_with fail
    refine (within_no _ _ _ H1.out).mono ?_
    rintro x w1 ⟨rfl, rfl⟩
    go_wp2
    go_ret
    exact ⟨rfl, hB.out⟩
  · cases h2 : btw o 0 16
    · have H1 := hid h1
      have H2 := hid h2
      clear h h1 h2
      go_enter Tryz.func155, Tryz.ntmps155
      go_wp2_with fail
      refine (within_yes _ _ _ H1.out).mono ?_
      rintro x w1 ⟨rfl, rfl⟩
      go_wp2_with fail
      refine (within_no _ _ _ H2.out).mono ?_
      rintro x w1 ⟨rfl, rfl⟩
      go_wp2
      go_ret
      exact ⟨rfl, hB.out⟩
    · cases h3 : btw r 0 65535
      · have H1 := hid h1
        have H2 := hid h2
        have H3 := hid h3
        clear h h1 h2 h3
        go_enter Tryz.func155, Tryz.ntmps155
        go_wp2_with fail
        refine (within_yes _ _ _ H1.out).mono ?_
        rintro x w1 ⟨rfl, rfl⟩
        go_wp2_with fail
        refine (within_yes _ _ _ H2.out).mono ?_
        rintro x w1 ⟨rfl, rfl⟩
        go_wp2_with fail
        refine (within_no _ _ _ H3.out).mono ?_
        rintro x w1 ⟨rfl, rfl⟩
        go_wp2
        go_ret
        exact ⟨rfl, hB.out⟩
      · have H1 := hid h1
        have H2 := hid h2
        have H3 := hid h3
        have H4 : Hid (btw e 0 4294967295 = false) := hid (by simpa [h1, h2, h3] using h)
        clear h h1 h2 h3
        go_enter Tryz.func155, Tryz.ntmps155
        go_wp2_with fail
        refine (within_yes _ _ _ H1.out).mono ?_
        rintro x w1 ⟨rfl, rfl⟩
        go_wp2_with fail
        refine (within_yes _ _ _ H2.out).mono ?_
        rintro x w1 ⟨rfl, rfl⟩
        go_wp2_with fail
        refine (within_yes _ _ _ H3.out).mono ?_
        rintro x w1 ⟨rfl, rfl⟩
        go_wp2_with fail
        refine (within_no _ _ _ H4.out).mono ?_
        rintro x w1 ⟨rfl, rfl⟩
        go_wp2
        go_ret
        exact ⟨rfl, hB.out⟩

theorem bool_eq {a b : Bool} {p : Prop} (h1 : a = true ↔ p) (h2 : b = true ↔ p) : a = b := by rw [Bool.eq_iff_iff, h1, h2]

set_option maxRecDepth 100000 in
set_option maxHeartbeats 1000000 in
theorem rright_in (k o r e : Int) (w : World) (h1 : btw k 0 5 = true) (h2 : btw o 0 16 = true) (h3 : btw r 0 65535 = true) (h4 : btw e 0 4294967295 = true) (b : Bool)
    (hb : b = true ↔ ((k ≤ 1 → o = 0 ∧ r = 0 ∧ e = 0) ∧ (k = 2 → o = 0 ∧ e = 0) ∧ (k = 3 ∨ k = 4 → 1 ≤ o ∧ e = 0) ∧ (k = 5 → r = 0))) :
    Calls Tryz.prog 155 #[.agg #[.int .i64 k, .int .i64 o, .int .i64 r, .int .i64 e]] w fun x w' => x = .returned (.bool b) ∧ Below w.heap.size w w' := by
  have hB := hid (below_one w (.cells #[.int .i64 k, .int .i64 o, .int .i64 r, .int .i64 e] 91))
  have hk := btw_yes.1 h1
  have ho := btw_yes.1 h2
  have H1 := hid h1
  have H2 := hid h2
  have H3 := hid h3
  have H4 := hid h4
  clear h1 h2 h3 h4
  have ways : (k = 0 ∨ k = 1 ∨ k = 2 ∨ k = 3 ∨ k = 4 ∨ k = 5) := by omega
  have HO := hid ho
  clear hk ho
  rcases ways with rfl | rfl | rfl | rfl | rfl | rfl
  all_goals
    simp only [Int.reduceLE, Int.reduceEq, false_implies, true_and, and_true, forall_const, or_false, or_true, or_self] at hb
    have HA := hid hb
    clear hb
    go_enter Tryz.func155, Tryz.ntmps155
    go_wp2_with fail
    refine (within_yes _ _ _ H1.out).mono ?_
    rintro x w1 ⟨rfl, rfl⟩
    go_wp2_with fail
    refine (within_yes _ _ _ H2.out).mono ?_
    rintro x w1 ⟨rfl, rfl⟩
    go_wp2_with fail
    refine (within_yes _ _ _ H3.out).mono ?_
    rintro x w1 ⟨rfl, rfl⟩
    go_wp2_with fail
    refine (within_yes _ _ _ H4.out).mono ?_
    rintro x w1 ⟨rfl, rfl⟩
    go_wp2
    all_goals
      go_ret
      refine ⟨ret_bool ?_, below_one _ _⟩
      have hA := HA.out
      have hO := HO.out
      rw [Bool.eq_iff_iff, hA]
      clear hA
      first
        | (simp [*]; done)
        | (simp only [beq_iff_eq, Bool.false_eq_true, false_iff]; omega)
        | (simp; omega)

theorem rright_at (d : Ds) (w : World) :
    Calls Tryz.prog 155 #[dV d] w fun x w' => x = .returned (.bool (rt d)) ∧ Below w.heap.size w w' := by
  cases h : (btw d.k 0 5 && (btw d.o 0 16 && (btw d.r 0 65535 && btw d.e 0 4294967295)))
  · refine (rright_out d.k d.o d.r d.e w h).mono fun x w' ⟨a, b⟩ => ⟨a.trans (ret_bool ?_), b⟩
    symm
    rw [← Bool.not_eq_true, rt_iff]
    intro hr
    have : (btw d.k 0 5 && (btw d.o 0 16 && (btw d.r 0 65535 && btw d.e 0 4294967295))) = true := by
      simp only [Bool.and_eq_true, btw_yes]; omega
    rw [h] at this
    cases this
  · have h' := h
    simp only [Bool.and_eq_true] at h'
    obtain ⟨h1, h2, h3, h4⟩ := h'
    refine rright_in d.k d.o d.r d.e w h1 h2 h3 h4 _ ?_
    have g1 := btw_yes.1 h1
    have g2 := btw_yes.1 h2
    have g3 := btw_yes.1 h3
    have g4 := btw_yes.1 h4
    rw [rt_iff]
    exact ⟨fun x => x.2, fun x => ⟨⟨g1.1, g1.2, g2.1, g2.2, g3.1, g3.2, g4.1, g4.2⟩, x⟩⟩
theorem rright_yes (d : Ds) (w : World) (h : rt d = true) :
    Calls Tryz.prog 155 #[dV d] w fun x w' => x = .returned (.bool true) ∧ Below w.heap.size w w' := by
  rw [← h]; exact rright_at d w
theorem rright_no (d : Ds) (w : World) (h : rt d = false) :
    Calls Tryz.prog 155 #[dV d] w fun x w' => x = .returned (.bool false) ∧ Below w.heap.size w w' := by
  rw [← h]; exact rright_at d w
end Go.Proofs.YtpfmmlbakbhklaaGreatDoor.O
namespace Go.Proofs.YtpfmmlbakbhklaaGreatDoor.O
open Go.RowKit

set_option maxRecDepth 100000 in
set_option maxHeartbeats 1000000 in
theorem leads_any (k b : Int) (w : World) (h : btw k 0 5 = true) :
    Calls Tryz.prog 156 #[.int .i64 k, .int .i64 b] w fun x w' => x = .returned (.bool (way k b)) ∧ w' = w := by
  have hk := btw_yes.1 h
  have HW := hid (way_iff k b hk)
  have ways : (k = 0 ∨ k = 1 ∨ k = 2 ∨ k = 3 ∨ k = 4 ∨ k = 5) := by omega
  clear hk h
  generalize way k b = u at *
  rcases ways with rfl | rfl | rfl | rfl | rfl | rfl
  all_goals
    have hw := HW.out
    simp at hw
    have HA := hid hw
    clear hw HW
    go_enter Tryz.func156, Tryz.ntmps156
    go_wp2
    all_goals
      go_ret
      refine ⟨ret_bool ?_, rfl⟩
      have hA := HA.out
      rw [Bool.eq_iff_iff, hA]
      clear hA HA
      first
        | (simp [*]; done)
        | (simp only [beq_iff_eq, Bool.false_eq_true, false_iff]; omega)
        | (simp; omega)

end Go.Proofs.YtpfmmlbakbhklaaGreatDoor.O
