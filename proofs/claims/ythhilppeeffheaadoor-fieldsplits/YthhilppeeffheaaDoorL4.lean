/- The walk of FieldSplits: it returns true for every word, every list of sizes and every list of parts; nothing that lay before is changed. -/
import Derived.Test.YthhilppeeffheaaDoorR3
namespace Go.Proofs.YthhilppeeffheaaDoor
open Go.RowKit

/-- A slice that reads as a list of parts. -/
def Parts (w : World) (v : Value) (l : List (Int × Int)) : Prop :=
  (∀ p ∈ l, 0 ≤ p.1 ∧ p.1 < 18446744073709551616) ∧ ∃ p cap, v = .slice p l.length cap ∧ (l ≠ [] → ∃ b off, p = some ⟨b, off, none⟩ ∧ PRow w b off l.length l)
theorem Parts.below {w w' : World} {v : Value} {l : List (Int × Int)} (h : Parts w v l) (hb : Below w.heap.size w w') : Parts w' v l := by
  obtain ⟨hV, p, cap, rfl, hc⟩ := h
  refine ⟨hV, p, cap, rfl, fun hne => ?_⟩
  obtain ⟨b, off, rfl, h1, h2, h3⟩ := hc hne
  exact ⟨b, off, rfl, h1, Nat.lt_of_lt_of_le h2 hb.size, fun i hi => ⟨(hb.cell (p := ⟨b, off + i * 2, none⟩) h2).trans (h3 i hi).1, (hb.cell (p := ⟨b, off + i * 2 + 1, none⟩) h2).trans (h3 i hi).2⟩⟩

theorem pack_any (v : Value) (l : List (Int × Int)) (w : World) (hn : l.length ≤ 100) (h : Parts w v l) :
    Calls Tryd.prog 24 #[v] w fun e w' => e = .returned (.int .u64 (packTo 0 0 l : Nat)) ∧ Below w.heap.size w w' := by
  obtain ⟨hV, p, cap, rfl, hc⟩ := h
  by_cases hne : l = []
  · subst hne
    exact (pack_nil p cap w).mono fun e w' ⟨h, h'⟩ => ⟨h, by rw [h']; exact Below.refl _ _⟩
  · obtain ⟨b, off, rfl, hP⟩ := hc hne
    exact pack_some b off cap l.length l (fun p hp => (hV p hp).1) w (by unfold maxLen; omega) hP
theorem rpack_any (v : Value) (l : List (Int × Int)) (w : World) (hn : l.length ≤ 100) (h : Parts w v l) :
    Calls Tryd.prog 25 #[v] w fun e w' => e = .returned (.int .u64 (packTo 0 0 l : Nat)) ∧ Below w.heap.size w w' := by
  obtain ⟨hV, p, cap, rfl, hc⟩ := h
  by_cases hne : l = []
  · subst hne
    exact (rpack_nil p cap w).mono fun e w' ⟨h, h'⟩ => ⟨h, by rw [h']; exact Below.refl _ _⟩
  · obtain ⟨b, off, rfl, hP⟩ := hc hne
    exact (rpack_some b off cap l.length l hV w (by unfold maxLen; omega) hP).mono fun e w' ⟨h, h'⟩ => ⟨h, Below.of_drewN h'⟩
theorem parts_any (v : Value) (l : List (Int × Int)) (w : World) (hn : l.length ≤ 100) (h : Parts w v l) :
    Calls Tryd.prog 26 #[v] w fun e w' => ∃ u, e = .returned u ∧ Parts w' u l ∧ Below w.heap.size w w' := by
  obtain ⟨hV, p, cap, rfl, hc⟩ := h
  by_cases hne : l = []
  · subst hne
    exact (parts_nil p cap w).mono fun e w' ⟨h, h'⟩ => ⟨_, h, ⟨hV, none, 0, rfl, fun h => absurd rfl h⟩, by rw [h']; exact Below.refl _ _⟩
  · obtain ⟨b, off, rfl, hP⟩ := hc hne
    refine (parts_some b off cap l.length l w hn hP).mono ?_
    rintro e w' ⟨u, rfl, hu, hB⟩
    obtain ⟨g, cap', rfl, hP'⟩ := iprow_of_owns (l := l) rfl (by have := List.length_pos_iff.2 hne; omega) hu
    exact ⟨_, rfl, ⟨hV, _, _, rfl, fun _ => ⟨g, 0, rfl, hP'⟩⟩, hB⟩

def spl (x : Nat) (xs : List Int) : List Int := ((splitTo x 0 xs).getD []).map fun i : Nat => ((i : Nat) : Int)
theorem splitTo_len (x : Nat) : ∀ (xs : List Int) (low : Int) (l : List Nat), splitTo x low xs = some l → l.length = xs.length
  | [], _, l, h => by simp [splitTo] at h; subst h; rfl
  | s :: r, low, l, h => by
    cases hf : isF low s
    · rw [splitTo_no _ _ _ _ hf] at h; cases h
    · rw [splitTo_yes _ _ _ _ hf] at h
      obtain ⟨l', hl', rfl⟩ := Option.map_eq_some_iff.1 h
      simp [splitTo_len x r _ l' hl']
theorem spl_len (x : Nat) (xs : List Int) : ((splitTo x 0 xs).getD []).length ≤ xs.length := by
  cases h : splitTo x 0 xs with
  | none => simp
  | some l => simp [splitTo_len x xs 0 l h]
theorem split_G (x : Nat) (hx : x < 18446744073709551616) (v : Value) (xs : List Int) (w : World) (hn : xs.length ≤ 100) (h : Row .i64 w v xs) :
    Calls Tryd.prog 22 #[.int .u64 x, v] w fun e w' => ∃ u, e = .returned u ∧ Row .u64 w' u (spl x xs) ∧ Below w.heap.size w w' :=
  (split_any x (by omega) (by omega) v xs w h).mono fun e w' ⟨u, he, hu, hb⟩ => ⟨u, he, Row.of_owns hu (by have := spl_len x xs; unfold maxLen; omega), hb⟩
theorem rsplit_G (x : Nat) (hx : x < 18446744073709551616) (v : Value) (xs : List Int) (w : World) (hn : xs.length ≤ 100) (h : Row .i64 w v xs) :
    Calls Tryd.prog 23 #[.int .u64 x, v] w fun e w' => ∃ u, e = .returned u ∧ Row .u64 w' u (spl x xs) ∧ Below w.heap.size w w' :=
  (rsplit_any x (by omega) (by omega) v xs w h).mono fun e w' ⟨u, he, hu, hb⟩ => ⟨u, he, Row.of_owns hu (by have := spl_len x xs; unfold maxLen; omega), hb⟩

set_option maxHeartbeats 400000 in
theorem splits_great (x : Int) (p q : Option Addr) (n c m d : Nat) (w : World) (hn : n ≤ maxLen) (hm : m ≤ maxLen) (h : 100 < n ∨ 100 < m) (hT : Tab w) (hw : 0 < w.heap.size) :
    Calls Tryd.prog 4 #[.int .u64 x, .slice p n c, .slice q m d] w fun e w' => e = .returned (.bool true) ∧ Below w.heap.size w w' := by
  unfold maxLen at hn hm
  by_cases h1 : (100 : Int) < n
  · go_enter Tryd.func4, Tryd.ntmps4
    go_wp2_with (go_at_call 20; refine (known_any _ hT hw).mono ?_; rintro e w' ⟨rfl, hb⟩)
    go_ret
    exact ⟨rfl, hb⟩
  · have h2 : (100 : Int) < m := by omega
    go_enter Tryd.func4, Tryd.ntmps4
    go_wp2_with (go_at_call 20; refine (known_any _ hT hw).mono ?_; rintro e w' ⟨rfl, hb⟩)
    go_ret
    exact ⟨rfl, hb⟩

set_option maxRecDepth 100000 in
set_option maxHeartbeats 400000 in
theorem splits_small (x : Nat) (hx : x < 18446744073709551616) (p q : Option Addr) (n c m d : Nat) (xs : List Int) (l : List (Int × Int)) (w : World) (hn : n ≤ 100) (hm : m ≤ 100) (hxs : xs.length = n) (hl : l.length = m)
    (hR : Row .i64 w (.slice p n c) xs) (hP : Parts w (.slice q m d) l) (hT : Tab w) (hw : 0 < w.heap.size) :
    Calls Tryd.prog 4 #[.int .u64 x, .slice p n c, .slice q m d] w fun e w' => e = .returned (.bool true) ∧ Below w.heap.size w w' := by
  have HX : Hid (x < 18446744073709551616) := hx
  have HN : Hid (xs.length ≤ 100) := by show xs.length ≤ 100; omega
  have HM : Hid (l.length ≤ 100) := by show l.length ≤ 100; omega
  clear hx hxs hl
  have h1 : ¬ (100 : Int) < n := by omega
  have h2 : ¬ (100 : Int) < m := by omega
  go_enter Tryd.func4, Tryd.ntmps4
  go_wp2_with fail
  refine (split_G x HX.out _ xs _ HN.out hR).mono ?_
  rintro e w1 ⟨u1, rfl, hu1, hb1⟩
  have hR1 := hR.below hb1
  go_wp2_with fail
  refine (rsplit_G x HX.out _ xs _ HN.out hR1).mono ?_
  rintro e w2 ⟨u2, rfl, hu2, hb2⟩
  have hu1' := hu1.below hb2
  replace hb2 := hb1.trans (hb2.mono hb1.size)
  clear hu1 hR1 hb1
  go_wp2_with fail
  refine (words_b _ _ _ _ hu1' hu2).mono ?_
  rintro e w3 ⟨rfl, hb3⟩
  replace hb3 := hb2.trans (hb3.mono hb2.size)
  have hP3 := hP.below hb3
  clear hb2 hu1' hu2
  go_wp2_with fail
  refine (pack_any _ l _ HM.out hP3).mono ?_
  rintro e w4 ⟨rfl, hb4⟩
  have hP4 := hP3.below hb4
  replace hb4 := hb3.trans (hb4.mono hb3.size)
  clear hb3 hP3
  obtain ⟨g, hg⟩ : ∃ g, packTo 0 0 l = g := ⟨_, rfl⟩
  have HG : Hid (packTo 0 0 l = g) := hg
  rw [hg]
  clear hg
  go_wp2_with fail
  refine (parts_any _ l _ HM.out hP4).mono ?_
  rintro e w5 ⟨u5, rfl, hP5, hb5⟩
  replace hb5 := hb4.trans (hb5.mono hb4.size)
  clear hb4 hP4
  go_wp2_with fail
  refine (rpack_any _ l _ HM.out hP5).mono ?_
  rintro e w6 ⟨rfl, hb6⟩
  replace hb6 := hb5.trans (hb6.mono hb5.size)
  clear hb5 hP5
  rw [HG.out]
  have t : ((g : Int) == g) = true := by simp
  go_wp2_with fail
  refine (known_any _ (hT.below hb6 hw) (Nat.lt_of_lt_of_le hw hb6.size)).mono ?_
  rintro e w7 ⟨rfl, hb7⟩
  replace hb7 := hb6.trans (hb7.mono hb6.size)
  go_wp2
  go_ret
  exact ⟨rfl, hb7⟩
end Go.Proofs.YthhilppeeffheaaDoor
