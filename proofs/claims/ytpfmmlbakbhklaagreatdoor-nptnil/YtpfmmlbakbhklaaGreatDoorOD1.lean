/- What a descriptor is, as four numbers: when it is right, its word, what may come next; and what each small call of package desc (isKind, between, Right) returns, for every argument. Condition: the package's table lies in its variable as the program's text lays them. -/
import Derived.Test.YtpfmmlbakbhklaaGreatDoorOW1
import Derived.Maps.AppendAt
import Derived.Deep.QuietTactic
import Derived.Deep.RegionHeld3
namespace Go.Proofs.YtpfmmlbakbhklaaGreatDoor.O
open Go.RowKit

theorem ret_bool {x y : Bool} (h : x = y) : Ending.returned (.bool x) = .returned (.bool y) := by rw [h]
theorem hid {p : Prop} (h : p) : Hid p := h
structure Ds where
  k : Int
  o : Int
  r : Int
  e : Int
def dV (d : Ds) : Value := .agg #[.int .i64 d.k, .int .i64 d.o, .int .i64 d.r, .int .i64 d.e]
def btw (n a b : Int) : Bool := decide (a ≤ n ∧ n ≤ b)
theorem btw_yes {n a b : Int} : btw n a b = true ↔ a ≤ n ∧ n ≤ b := by simp [btw]
theorem btw_no {n a b : Int} : btw n a b = false ↔ ¬ (a ≤ n ∧ n ≤ b) := by rw [← btw_yes]; simp

/-- The rows of the table of rules: what the owner is between, the greatest refs, the greatest epoch. -/
def loO : Nat → Int | 3 => 1 | 4 => 1 | _ => 0
def hiO : Nat → Int | 3 => 16 | 4 => 16 | 5 => 16 | _ => 0
def hiR : Nat → Int | 2 => 65535 | 3 => 65535 | 4 => 65535 | _ => 0
def hiE : Nat → Int | 5 => 4294967295 | _ => 0

/-- The table, in its variable. -/
structure Tab (w : World) : Prop where
  pos : 0 < w.heap.size
  lo : ∀ k, k < 6 → w.cell? ⟨0, k * 4, none⟩ = some (.int .i64 (loO k))
  hi : ∀ k, k < 6 → w.cell? ⟨0, k * 4 + 1, none⟩ = some (.int .i64 (hiO k))
  mr : ∀ k, k < 6 → w.cell? ⟨0, k * 4 + 2, none⟩ = some (.int .i64 (hiR k))
  me : ∀ k, k < 6 → w.cell? ⟨0, k * 4 + 3, none⟩ = some (.int .i64 (hiE k))
theorem Tab.below {A B : World} {n : Nat} (hT : Tab A) (h : Below n A B) (hn : 0 < n) (hs : A.heap.size ≤ B.heap.size) : Tab B where
  pos := Nat.lt_of_lt_of_le hT.pos hs
  lo k hk := (h.cell (p := ⟨0, k * 4, none⟩) (by show 0 < n; omega)).trans (hT.lo k hk)
  hi k hk := (h.cell (p := ⟨0, k * 4 + 1, none⟩) (by show 0 < n; omega)).trans (hT.hi k hk)
  mr k hk := (h.cell (p := ⟨0, k * 4 + 2, none⟩) (by show 0 < n; omega)).trans (hT.mr k hk)
  me k hk := (h.cell (p := ⟨0, k * 4 + 3, none⟩) (by show 0 < n; omega)).trans (hT.me k hk)

set_option maxHeartbeats 400000 in
theorem isKind_yes (k : Int) (w : World) (h : btw k 0 5 = true) :
    Calls Tryz.prog 198 #[.int .i64 k] w fun e w' => e = .returned (.bool true) ∧ w' = w := by
  obtain ⟨h1, h2⟩ := btw_yes.1 h
  clear h
  go_enter Tryz.func198, Tryz.ntmps198
  go_wp2
  go_ret
  exact ⟨rfl, rfl⟩
set_option maxHeartbeats 400000 in
theorem isKind_no (k : Int) (w : World) (h : btw k 0 5 = false) :
    Calls Tryz.prog 198 #[.int .i64 k] w fun e w' => e = .returned (.bool false) ∧ w' = w := by
  have h' := btw_no.1 h
  clear h
  by_cases h1 : 0 ≤ k
  · have h2 : ¬ k ≤ 5 := by omega
    clear h'
    go_enter Tryz.func198, Tryz.ntmps198
    go_wp2
    go_ret
    exact ⟨rfl, rfl⟩
  · clear h'
    go_enter Tryz.func198, Tryz.ntmps198
    go_wp2
    go_ret
    exact ⟨rfl, rfl⟩

set_option maxHeartbeats 400000 in
theorem between_any (n a b : Int) (w : World) :
    Calls Tryz.prog 199 #[.int .i64 n, .int .i64 a, .int .i64 b] w fun e w' => e = .returned (.bool (btw n a b)) ∧ w' = w := by
  by_cases h1 : a ≤ n
  · by_cases h2 : n ≤ b
    · have e : btw n a b = true := btw_yes.2 ⟨h1, h2⟩
      rw [e]; clear e
      go_enter Tryz.func199, Tryz.ntmps199
      go_wp2
      go_ret
      exact ⟨rfl, rfl⟩
    · have e : btw n a b = false := btw_no.2 (fun h => h2 h.2)
      rw [e]; clear e
      go_enter Tryz.func199, Tryz.ntmps199
      go_wp2
      go_ret
      exact ⟨rfl, rfl⟩
  · have e : btw n a b = false := btw_no.2 (fun h => h1 h.1)
    rw [e]; clear e
    go_enter Tryz.func199, Tryz.ntmps199
    go_wp2
    go_ret
    exact ⟨rfl, rfl⟩
theorem between_yes (n a b : Int) (w : World) (h : btw n a b = true) :
    Calls Tryz.prog 199 #[.int .i64 n, .int .i64 a, .int .i64 b] w fun e w' => e = .returned (.bool true) ∧ w' = w := by
  rw [← h]; exact between_any n a b w
theorem between_no (n a b : Int) (w : World) (h : btw n a b = false) :
    Calls Tryz.prog 199 #[.int .i64 n, .int .i64 a, .int .i64 b] w fun e w' => e = .returned (.bool false) ∧ w' = w := by
  rw [← h]; exact between_any n a b w

theorem Tab.alloc {w : World} (hT : Tab w) (o : Obj) : Tab (w.alloc o) :=
  hT.below ((Below.refl _ _).alloc (Nat.le_refl _) _) hT.pos (by simp)

set_option maxRecDepth 100000 in
set_option maxHeartbeats 400000 in
theorem right_kind (k : Nat) (o r e : Int) (w : World) (hk : k < 6) (hT : Tab w) :
    Calls Tryz.prog 188 #[.agg #[.int .i64 k, .int .i64 o, .int .i64 r, .int .i64 e]] w fun x w' => x = .returned (.bool (btw o (loO k) (hiO k) && (btw r 0 (hiR k) && btw e 0 (hiE k)))) ∧ Below w.heap.size w w' := by
  have hT' := hT.alloc (.cells #[.int .i64 k, .int .i64 o, .int .i64 r, .int .i64 e] 64)
  have c0 := hT'.lo k hk
  have c1 := hT'.hi k hk
  have c2 := hT'.mr k hk
  have c3 := hT'.me k hk
  have HK : Hid (btw (k : Int) 0 5 = true) := btw_yes.2 ⟨by omega, by omega⟩
  generalize loO k = lo at c0 ⊢
  generalize hiO k = hi at c1 ⊢
  generalize hiR k = mr at c2 ⊢
  generalize hiE k = me at c3 ⊢
  have hB := hid (((Below.refl w.heap.size w).alloc (Nat.le_refl _) (.cells #[.int .i64 k, .int .i64 o, .int .i64 r, .int .i64 e] 64)).alloc (by simp) (.cells #[.int .i64 lo, .int .i64 hi, .int .i64 mr, .int .i64 me] 249))
  clear hT hT'
  go_enter Tryz.func188, Tryz.ntmps188
  go_wp2_with fail
  refine (isKind_yes _ _ HK.out).mono ?_
  rintro x w1 ⟨rfl, rfl⟩
  go_wp2_with fail
  refine (between_any _ _ _ _).mono ?_
  rintro x w1 ⟨rfl, rfl⟩
  cases h1 : btw o lo hi
  · go_wp2
    go_ret
    exact ⟨ret_bool (by rw [h1]; rfl), hB.out⟩
  · go_wp2_with fail
    refine (between_any _ _ _ _).mono ?_
    rintro x w1 ⟨rfl, rfl⟩
    cases h2 : btw r 0 mr
    · go_wp2
      go_ret
      exact ⟨ret_bool (by rw [h1, h2]; rfl), hB.out⟩
    · go_wp2_with fail
      refine (between_any _ _ _ _).mono ?_
      rintro x w1 ⟨rfl, rfl⟩
      go_wp2
      go_ret
      exact ⟨ret_bool (by rw [h1, h2]; rfl), hB.out⟩

set_option maxHeartbeats 400000 in
theorem right_none (k o r e : Int) (w : World) (hk : btw k 0 5 = false) :
    Calls Tryz.prog 188 #[.agg #[.int .i64 k, .int .i64 o, .int .i64 r, .int .i64 e]] w fun x w' => x = .returned (.bool false) ∧ Below w.heap.size w w' := by
  have HK := hid hk
  have hB := hid ((Below.refl w.heap.size w).alloc (Nat.le_refl _) (.cells #[.int .i64 k, .int .i64 o, .int .i64 r, .int .i64 e] 64))
  clear hk
  go_enter Tryz.func188, Tryz.ntmps188
  go_wp2_with fail
  refine (isKind_no _ _ HK.out).mono ?_
  rintro x w1 ⟨rfl, rfl⟩
  go_wp2
  go_ret
  exact ⟨rfl, hB.out⟩

/-- Is it right? -/
def rt (d : Ds) : Bool := btw d.k 0 5 && (btw d.o (loO d.k.toNat) (hiO d.k.toNat) && (btw d.r 0 (hiR d.k.toNat) && btw d.e 0 (hiE d.k.toNat)))
theorem right_at (d : Ds) (w : World) (hT : Tab w) :
    Calls Tryz.prog 188 #[dV d] w fun x w' => x = .returned (.bool (rt d)) ∧ Below w.heap.size w w' := by
  obtain ⟨k, o, r, e⟩ := d
  cases hk : btw k 0 5
  · refine (right_none k o r e w hk).mono fun x w' ⟨a, b⟩ => ⟨a.trans (ret_bool ?_), b⟩
    simp [rt, hk]
  · have h := btw_yes.1 hk
    obtain ⟨n, rfl⟩ := Int.eq_ofNat_of_zero_le h.1
    refine (right_kind n o r e w (by omega) hT).mono fun x w' ⟨a, b⟩ => ⟨a.trans (ret_bool ?_), b⟩
    simp [rt, hk]
theorem right_yes (d : Ds) (w : World) (hT : Tab w) (h : rt d = true) :
    Calls Tryz.prog 188 #[dV d] w fun x w' => x = .returned (.bool true) ∧ Below w.heap.size w w' := by
  rw [← h]; exact right_at d w hT
theorem right_no (d : Ds) (w : World) (hT : Tab w) (h : rt d = false) :
    Calls Tryz.prog 188 #[dV d] w fun x w' => x = .returned (.bool false) ∧ Below w.heap.size w w' := by
  rw [← h]; exact right_at d w hT

/-- What being right says, in plain numbers. -/
theorem rt_iff (d : Ds) : rt d = true ↔ (0 ≤ d.k ∧ d.k ≤ 5 ∧ 0 ≤ d.o ∧ d.o ≤ 16 ∧ 0 ≤ d.r ∧ d.r ≤ 65535 ∧ 0 ≤ d.e ∧ d.e ≤ 4294967295) ∧
    ((d.k ≤ 1 → d.o = 0 ∧ d.r = 0 ∧ d.e = 0) ∧ (d.k = 2 → d.o = 0 ∧ d.e = 0) ∧ (d.k = 3 ∨ d.k = 4 → 1 ≤ d.o ∧ d.e = 0) ∧ (d.k = 5 → d.r = 0)) := by
  obtain ⟨k, o, r, e⟩ := d
  unfold rt
  simp only [Bool.and_eq_true, btw_yes]
  constructor
  · rintro ⟨⟨h0, h5⟩, ⟨a, b⟩, ⟨c, d⟩, f, g⟩
    obtain ⟨n, rfl⟩ := Int.eq_ofNat_of_zero_le h0
    simp only [Int.toNat_natCast] at *
    match n, h5 with
    | 0, _ => simp [loO, hiO, hiR, hiE] at *; omega
    | 1, _ => simp [loO, hiO, hiR, hiE] at *; omega
    | 2, _ => simp [loO, hiO, hiR, hiE] at *; omega
    | 3, _ => simp [loO, hiO, hiR, hiE] at *; omega
    | 4, _ => simp [loO, hiO, hiR, hiE] at *; omega
    | 5, _ => simp [loO, hiO, hiR, hiE] at *; omega
    | n + 6, h => exfalso; omega
  · rintro ⟨⟨h0, h5, h⟩, h1, h2, h3, h4⟩
    obtain ⟨n, rfl⟩ := Int.eq_ofNat_of_zero_le h0
    simp only [Int.toNat_natCast] at *
    match n, h5 with
    | 0, _ => simp [loO, hiO, hiR, hiE] at *; omega
    | 1, _ => simp [loO, hiO, hiR, hiE] at *; omega
    | 2, _ => simp [loO, hiO, hiR, hiE] at *; omega
    | 3, _ => simp [loO, hiO, hiR, hiE] at *; omega
    | 4, _ => simp [loO, hiO, hiR, hiE] at *; omega
    | 5, _ => simp [loO, hiO, hiR, hiE] at *; omega
    | n + 6, h => exfalso; omega

end Go.Proofs.YtpfmmlbakbhklaaGreatDoor.O
