/- What New, and the parts of a row (hasAll, part, Words, Copy), return: new memory; nothing that lay before is changed. Conditions: none but that the words are those that New gave. -/
import Derived.Test.YtpfmmlbakbhklaaGreatDoorW4
import Derived.Deep.OwnRows
import Derived.Deep.RegionHeld3
namespace Go.Proofs.YtpfmmlbakbhklaaGreatDoor
open Go.RowKit

def allB (n : Nat) (a m : Int) : Bool := decide (1 ≤ m ∧ 0 ≤ a ∧ a + m ≤ n)
theorem allB_yes {n : Nat} {a m : Int} : allB n a m = true ↔ 1 ≤ m ∧ 0 ≤ a ∧ a + m ≤ n := by simp [allB]
theorem allB_no {n : Nat} {a m : Int} : allB n a m = false ↔ ¬ (1 ≤ m ∧ 0 ≤ a ∧ a + m ≤ n) := by rw [← allB_yes]; simp

set_option maxHeartbeats 400000 in
theorem hasAll_any (w : World) (q : Option Addr) (n c : Nat) (a m : Int) (hn : n ≤ 65536) (hm : m ≤ 9223372036854775807) :
    Calls Tryz.prog 108 #[.slice q n c, .int .i64 a, .int .i64 m] w fun e w' => e = .returned (.bool (allB n a m)) ∧ w' = w := by
  by_cases h0 : 1 ≤ m
  · by_cases h1 : 0 ≤ a
    · by_cases h2 : a ≤ n - m
      · rw [allB_yes.2 ⟨h0, h1, by omega⟩]
        go_enter Tryz.func108, Tryz.ntmps108
        go_wp2
        go_ret
        exact ⟨rfl, rfl⟩
      · rw [allB_no.2 (by omega)]
        go_enter Tryz.func108, Tryz.ntmps108
        go_wp2
        go_ret
        exact ⟨rfl, rfl⟩
    · rw [allB_no.2 (by omega)]
      go_enter Tryz.func108, Tryz.ntmps108
      go_wp2
      go_ret
      exact ⟨rfl, rfl⟩
  · rw [allB_no.2 (by omega)]
    go_enter Tryz.func108, Tryz.ntmps108
    go_wp2
    go_ret
    exact ⟨rfl, rfl⟩

def cut (xs : List Int) (a m : Nat) : List Int := (xs.drop a).take m
theorem cut_length {xs : List Int} {a m : Nat} (h : a + m ≤ xs.length) : (cut xs a m).length = m := by simp [cut]; omega
theorem cut_get {xs : List Int} {a m j : Nat} (hj : j < m) : (cut xs a m)[j]? = xs[a + j]? := by simp [cut, hj]

/-- A copy of words into new memory. -/
theorem copy_run {w : World} {b : Nat} {xs : List Int} (h : IsRow w b xs) (n a m : Nat) (hx : xs.length = n) (ha : a + m ≤ n) :
    ∃ w2, (Builtin.copy_ #[122, 122] 3 #[.slice (some ⟨w.heap.size, 0, none⟩) m m, .slice (some ⟨b, a, none⟩) (n - a) (n - a)]).run Tryz.prog (w.alloc (.cells (madeCells #[(.int .u64 0 : Value)] m) 67)) = .ok (.int .i64 m) w2 ∧
      IsRow w2 w.heap.size (cut xs a m) ∧ Below w.heap.size w w2 := by
  have hl := cut_length (xs := xs) (a := a) (m := m) (by omega)
  have hlt := h.lt
  have hg : (w.alloc (.cells (wd (List.replicate m 0)).toArray 67)).heap[w.heap.size]? = some (.cells (wd (List.replicate m 0)).toArray 67 (0, 0)) := heap_alloc_new _ _
  have hcs : (wd (cut xs a m)).length = m := by simpa [wd] using hl
  have := run_copy_row (P := Tryz.prog) (w.alloc (.cells (wd (List.replicate m 0)).toArray 67)) 122 122 3 67 w.heap.size 0 m m ⟨b, a, none⟩ (n - a) (n - a) (wd (List.replicate m 0)).toArray 67 (wd (cut xs a m))
    Tryz.underlying122 size67 hg (by rw [hcs]; show m = min (n - a) m; omega)
    (fun j v hj => by
      have hj' : j < m := by have := (List.getElem?_eq_some_iff.1 hj).1; omega
      have e : (wd (cut xs a m))[j]? = some (.int .u64 (xs.getD (a + j) 0)) := by
        simp [wd, cut_get hj', List.getD, show a + j < xs.length by omega]
      rw [e] at hj
      obtain rfl := Option.some.inj hj
      rw [Addr.add_lit]
      have hbelow : Below w.heap.size w (w.alloc (.cells (wd (List.replicate m 0)).toArray 67)) := (Below.refl _ _).alloc (Nat.le_refl _) _
      rw [hbelow.cell (p := ⟨b, a + j, none⟩) hlt]
      exact h.cell (a + j) (by omega))
    (by rw [hcs]; simp [wd]) (fun v hv => by
      obtain ⟨x, _, rfl⟩ := List.mem_map.1 hv
      rfl)
  rw [made_eq]
  refine ⟨_, this.trans (by rw [hcs]; rfl), ?_, below_setRow ((Below.refl _ _).alloc (Nat.le_refl _) _) (Nat.le_refl _) _⟩
  refine (setRow_heap _ _ _ _ _ _ hg).trans ?_
  have e : List.drop (0 + m) (wd (List.replicate m 0)) = [] := List.drop_eq_nil_of_le (by simp [wd])
  simp only [List.take_zero, List.nil_append, e, List.append_nil]

set_option maxHeartbeats 800000 in
theorem part_yes {w : World} {b : Nat} {xs : List Int} (h : IsRow w b xs) (n a m : Nat) (hx : xs.length = n) (hn : n ≤ 65536) (hm : 1 ≤ m) (ha : a + m ≤ n) :
    Calls Tryz.prog 65 #[.slice (some ⟨b, 0, none⟩) n n, .int .i64 a, .int .i64 m] w fun e w' => e = .returned (.slice (some ⟨w.heap.size, 0, none⟩) m m) ∧ IsRow w' w.heap.size (cut xs a m) ∧ Below w.heap.size w w' := by
  have hmk := run_make_row' (P := Tryz.prog) 122 67 (.int .u64 0) 8 Tryz.underlying122 info67 rfl .i64 .i64 m (by omega) (by omega)
  obtain ⟨w2, hcp, hR, hB⟩ := copy_run h n a m hx ha
  have HA : Hid (allB n a m = true) := allB_yes.2 (by omega)
  have HR : Hid (IsRow w2 w.heap.size (cut xs a m)) := hR
  have HB : Hid (Below w.heap.size w w2) := hB
  clear hx h hR hB
  go_enter Tryz.func65, Tryz.ntmps65
  go_wp2_with (go_at_call 108; refine (hasAll_any _ _ _ _ _ _ hn (by omega)).mono ?_; rintro e w' ⟨rfl, hw'⟩; rw [hw', HA.out]; clear hw' w')
  go_ret
  exact ⟨rfl, HR.out, HB.out⟩

set_option maxHeartbeats 800000 in
theorem part_no {w : World} (q : Option Addr) (n : Nat) (a m : Int) (hn : n ≤ 65536) (hm : m ≤ 9223372036854775807) (h : allB n a m = false) :
    Calls Tryz.prog 65 #[.slice q n n, .int .i64 a, .int .i64 m] w fun e w' => e = .returned (.slice none 0 0) ∧ w' = w := by
  have HA : Hid (allB n a m = false) := h
  clear h
  go_enter Tryz.func65, Tryz.ntmps65
  go_wp2_with (go_at_call 108; refine (hasAll_any _ _ _ _ _ _ hn hm).mono ?_; rintro e w' ⟨rfl, hw'⟩; rw [hw', HA.out]; clear hw' w')
  go_ret
  exact ⟨rfl, rfl⟩

set_option maxHeartbeats 400000 in
theorem words_yes {w : World} {p b : Nat} {xs : List Int} {d l : Int} (h : IsMem 124 w p b xs d l) (a m : Nat) (hm : 1 ≤ m) (ha : a + m ≤ xs.length) :
    Calls Tryz.prog 29 #[.pointer (some ⟨p, 0, none⟩), .int .i64 a, .int .i64 m] w fun e w' => e = .returned (.slice (some ⟨w.heap.size, 0, none⟩) m m) ∧ IsRow w' w.heap.size (cut xs a m) ∧ Below w.heap.size w w' := by
  have c0 := h.cells.1
  have HF : Hid (Calls Tryz.prog 64 #[.pointer (some ⟨p, 0, none⟩)] w fun e w' => e = .returned (.bool false) ∧ w' = w) := isNone_at h
  have HP : Hid (Calls Tryz.prog 65 #[.slice (some ⟨b, 0, none⟩) xs.length xs.length, .int .i64 a, .int .i64 m] w fun e w' => e = .returned (.slice (some ⟨w.heap.size, 0, none⟩) m m) ∧ IsRow w' w.heap.size (cut xs a m) ∧ Below w.heap.size w w') := part_yes h.row xs.length a m rfl h.top hm ha
  generalize xs.length = n at *
  clear h
  go_enter Tryz.func29, Tryz.ntmps29
  go_wp2_with (first
    | (go_at_call 64; refine HF.out.mono ?_; rintro e w' ⟨rfl, hw'⟩; rw [hw']; clear hw' w')
    | (go_at_call 65; refine HP.out.mono ?_; rintro e w' ⟨rfl, hR, hB⟩))
  go_ret
  exact ⟨rfl, hR, hB⟩

set_option maxHeartbeats 400000 in
theorem words_no {w : World} {p b : Nat} {xs : List Int} {d l : Int} (h : IsMem 124 w p b xs d l) (a m : Int) (hm : m ≤ 9223372036854775807) (hA : allB xs.length a m = false) :
    Calls Tryz.prog 29 #[.pointer (some ⟨p, 0, none⟩), .int .i64 a, .int .i64 m] w fun e w' => e = .returned (.slice none 0 0) ∧ w' = w := by
  have c0 := h.cells.1
  have HF : Hid (Calls Tryz.prog 64 #[.pointer (some ⟨p, 0, none⟩)] w fun e w' => e = .returned (.bool false) ∧ w' = w) := isNone_at h
  have HP : Hid (Calls Tryz.prog 65 #[.slice (some ⟨b, 0, none⟩) xs.length xs.length, .int .i64 a, .int .i64 m] w fun e w' => e = .returned (.slice none 0 0) ∧ w' = w) := part_no _ _ _ _ h.top hm hA
  clear hA
  generalize xs.length = n at *
  clear h
  go_enter Tryz.func29, Tryz.ntmps29
  go_wp2_with (first
    | (go_at_call 64; refine HF.out.mono ?_; rintro e w' ⟨rfl, hw'⟩; rw [hw']; clear hw' w')
    | (go_at_call 65; refine HP.out.mono ?_; rintro e w' ⟨rfl, hw'⟩; rw [hw']; clear hw' w'))
  go_ret
  exact ⟨rfl, rfl⟩
set_option maxHeartbeats 400000 in
theorem words_none {w : World} {q : Option Addr} (a m : Int) (h : Calls Tryz.prog 64 #[.pointer q] w fun e w' => e = .returned (.bool true) ∧ w' = w) :
    Calls Tryz.prog 29 #[.pointer q, .int .i64 a, .int .i64 m] w fun e w' => e = .returned (.slice none 0 0) ∧ w' = w := by
  have HF : Hid (Calls Tryz.prog 64 #[.pointer q] w fun e w' => e = .returned (.bool true) ∧ w' = w) := h
  clear h
  go_enter Tryz.func29, Tryz.ntmps29
  go_wp2_with (go_at_call 64; refine HF.out.mono ?_; rintro e w' ⟨rfl, hw'⟩; rw [hw']; clear hw' w')
  go_ret
  exact ⟨rfl, rfl⟩
set_option maxHeartbeats 400000 in
theorem copy_none {w : World} {q : Option Addr} (h : Calls Tryz.prog 64 #[.pointer q] w fun e w' => e = .returned (.bool true) ∧ w' = w) :
    Calls Tryz.prog 26 #[.pointer q] w fun e w' => e = .returned (.pointer none) ∧ w' = w := by
  have HF : Hid (Calls Tryz.prog 64 #[.pointer q] w fun e w' => e = .returned (.bool true) ∧ w' = w) := h
  clear h
  go_enter Tryz.func26, Tryz.ntmps26
  go_wp2_with (go_at_call 64; refine HF.out.mono ?_; rintro e w' ⟨rfl, hw'⟩; rw [hw']; clear hw' w')
  go_ret
  exact ⟨rfl, rfl⟩

/-- What stands while a copy is made. -/
def CoS (w : World) (p b n : Nat) (d l : Int) (w' : World) : Prop :=
  (w'.cell? ⟨p, 0, none⟩ = some (.slice (some ⟨b, 0, none⟩) n n) ∧ w'.cell? ⟨p, 1, none⟩ = some (.int .i64 d) ∧ w'.cell? ⟨p, 2, none⟩ = some (.int .i64 l)) ∧ Below w.heap.size w w'
theorem IsMem.coS {w : World} {p b : Nat} {xs : List Int} {d l : Int} (h : IsMem 124 w p b xs d l) {w' : World} (hb : Below w.heap.size w w') : CoS w p b xs.length d l w' :=
  ⟨(h.below hb).cells, hb⟩
theorem CoS.part {w : World} {p b : Nat} {xs : List Int} {d l : Int} (h : IsMem 124 w p b xs d l) {w' : World} (hb : CoS w p b xs.length d l w') :
    Calls Tryz.prog 65 #[.slice (some ⟨b, 0, none⟩) xs.length xs.length, .int .i64 0, .int .i64 xs.length] w' fun e w'' => ∃ g, e = .returned (.slice (some ⟨g, 0, none⟩) xs.length xs.length) ∧ Hid (IsRow w'' g xs ∧ w.heap.size ≤ g) ∧ CoS w p b xs.length d l w'' := by
  refine (part_yes (h.below hb.2).row xs.length 0 xs.length rfl h.top h.pos (by omega)).mono ?_
  rintro e w'' ⟨rfl, hR, hB⟩
  refine ⟨_, rfl, ⟨?_, hb.2.size⟩, h.coS (hb.2.trans (hB.mono hb.2.size))⟩
  have : cut xs 0 xs.length = xs := by simp [cut]
  rw [this] at hR
  exact hR

theorem CoS.alloc {w : World} {p b n : Nat} {d l : Int} {w' : World} (hp : p < w.heap.size) (h : CoS w p b n d l w') (o : Obj) : CoS w p b n d l (w'.alloc o) := by
  obtain ⟨⟨h1, h2, h3⟩, hB⟩ := h
  have hB' : Below w.heap.size w (w'.alloc o) := hB.alloc hB.size _
  refine ⟨⟨?_, ?_, ?_⟩, hB'⟩
  · rw [← h1, hB'.cell (p := ⟨p, 0, none⟩) hp, hB.cell (p := ⟨p, 0, none⟩) hp]
  · rw [← h2, hB'.cell (p := ⟨p, 1, none⟩) hp, hB.cell (p := ⟨p, 1, none⟩) hp]
  · rw [← h3, hB'.cell (p := ⟨p, 2, none⟩) hp, hB.cell (p := ⟨p, 2, none⟩) hp]
theorem mem_made {w w' : World} {g n : Nat} {xs : List Int} {d l : Int} (hn : xs.length = n) (h1 : 1 ≤ n) (h2 : n ≤ 65536) (h : IsRow w' g xs) (hg : w.heap.size ≤ g) (hB : Below w.heap.size w w') :
    IsMem 124 (w'.alloc (.cells #[.slice (some ⟨g, 0, none⟩) n n, .int .i64 d, .int .i64 l] 124)) w'.heap.size g xs d l ∧ w.heap.size ≤ w'.heap.size ∧ w.heap.size ≤ g ∧ Below w.heap.size w (w'.alloc (.cells #[.slice (some ⟨g, 0, none⟩) n n, .int .i64 d, .int .i64 l] 124)) := by
  subst hn
  have hlt := h.lt
  exact ⟨⟨heap_alloc_new _ _, h.keep (Below.heap_alloc _ _ _ hlt), by omega, h1, h2⟩, hB.size, hg, hB.alloc hB.size _⟩

set_option maxRecDepth 100000 in
set_option maxHeartbeats 1000000 in
theorem copy_at {w : World} {p b : Nat} {xs : List Int} {d l : Int} (h : IsMem 124 w p b xs d l) :
    Calls Tryz.prog 26 #[.pointer (some ⟨p, 0, none⟩)] w fun e w' => ∃ p' b', e = .returned (.pointer (some ⟨p', 0, none⟩)) ∧ IsMem 124 w' p' b' xs d l ∧ w.heap.size ≤ p' ∧ w.heap.size ≤ b' ∧ Below w.heap.size w w' := by
  obtain ⟨c0, c1, c2⟩ := h.cells
  have HF : Hid (Calls Tryz.prog 64 #[.pointer (some ⟨p, 0, none⟩)] w fun e w' => e = .returned (.bool false) ∧ w' = w) := isNone_at h
  have hS0 : CoS w p b xs.length d l w.drew := h.coS (Below.refl _ _).drew
  have HP : Hid (∀ {w' : World} (_ : CoS w p b xs.length d l w'),
    Calls Tryz.prog 65 #[.slice (some ⟨b, 0, none⟩) xs.length xs.length, .int .i64 0, .int .i64 xs.length] w' fun e w'' => ∃ g, e = .returned (.slice (some ⟨g, 0, none⟩) xs.length xs.length) ∧ Hid (IsRow w'' g xs ∧ w.heap.size ≤ g) ∧ CoS w p b xs.length d l w'') := fun hb => CoS.part h hb
  have h1 := h.pos
  have h2 := h.top
  have hp := h.lt.1
  obtain ⟨n, hn⟩ : ∃ n, xs.length = n := ⟨_, rfl⟩
  have HN : Hid (xs.length = n) := hn
  rw [hn] at c0 hS0 HP h1 h2
  clear h hn
  go_enter Tryz.func26, Tryz.ntmps26
  go_wp2_with (go_at_call 64; refine HF.out.mono ?_; rintro e w' ⟨rfl, hw'⟩; rw [hw']; clear hw' w')
  go_region_held3 (fun w' => (w'.cell? ⟨p, 0, none⟩ = some (.slice (some ⟨b, 0, none⟩) n n) ∧ w'.cell? ⟨p, 1, none⟩ = some (.int .i64 d) ∧ w'.cell? ⟨p, 2, none⟩ = some (.int .i64 l)) ∧ Below w.heap.size w w') (first | exact hS0 | assumption | exact CoS.alloc hp (by assumption) _)
    (first
      | (go_at_call 65; refine (HP.out (by assumption)).mono ?_; rintro e w' ⟨g, rfl, hg, hw'⟩))
  all_goals go_wp2
  all_goals go_ret
  all_goals exact ⟨_, _, rfl, mem_made HN.out h1 h2 hg.out.1 hg.out.2 (And.right (b := Below w.heap.size w _) (show CoS w p b n d l _ by assumption))⟩
end Go.Proofs.YtpfmmlbakbhklaaGreatDoor
