/- The contracts of Split and Pack, over lists that lie in memory. -/
import Derived.Test.YtpfmmlbakbhklaaGreatDoorPW1
import Derived.Maps.AppendAt
import Derived.Deep.QuietTactic
import Derived.Deep.RegionHeld3
namespace Go.Proofs.YtpfmmlbakbhklaaGreatDoor.P
open Go.RowKit

/-- A slice that reads as a list of numbers of a kind. -/
def Row (k : IntKind) (w : World) (v : Value) (xs : List Int) : Prop :=
  xs.length ≤ maxLen ∧ ∃ p cap, v = .slice p xs.length cap ∧ (xs ≠ [] → ∃ b off, p = some ⟨b, off, none⟩ ∧ b < w.heap.size ∧ ∀ i, i < xs.length → w.cell? ⟨b, off + i, none⟩ = some (.int k (xs[i]?.getD 0)))

theorem Row.below {k : IntKind} {w w' : World} {v : Value} {xs : List Int} (h : Row k w v xs) (hb : Below w.heap.size w w') : Row k w' v xs := by
  obtain ⟨hl, p, cap, rfl, hc⟩ := h
  refine ⟨hl, p, cap, rfl, fun hne => ?_⟩
  obtain ⟨b, off, rfl, hlt, hcell⟩ := hc hne
  exact ⟨b, off, rfl, Nat.lt_of_lt_of_le hlt hb.size, fun i hi => (hb.cell (p := ⟨b, off + i, none⟩) hlt).trans (hcell i hi)⟩

/-- What Split hands back: a word's fields, or none where they are no fields of one word. -/
def splitTo (x : Nat) : Int → List Int → Option (List Nat)
  | _, [] => some []
  | low, s :: r => if isF low s then (splitTo x (low + s) r).map (fGet x low s :: ·) else none

theorem splitTo_yes (x : Nat) (low s : Int) (r : List Int) (h : isF low s = true) : splitTo x low (s :: r) = (splitTo x (low + s) r).map (fGet x low s :: ·) := by
  simp [splitTo, h]

theorem splitTo_no (x : Nat) (low s : Int) (r : List Int) (h : isF low s = false) : splitTo x low (s :: r) = none := by
  simp [splitTo, h]

theorem info67 : (Tryz.prog.info? 67).map (fun i => (i.zero, i.size, i.bytes)) = some (some (.int .u64 0), 1, 8) := by kernel_rfl

def wrds (l : List Nat) : List Value := l.map fun x => Value.int .u64 (x : Nat)

set_option maxHeartbeats 400000 in
theorem split_nil (x : Int) (p : Option Addr) (c : Nat) (w : World) :
    Calls Tryz.prog 157 #[.int .u64 x, .slice p 0 c] w fun e w' => e = .returned (.slice none 0 0) ∧ w' = w := by
  go_enter Tryz.func157, Tryz.ntmps157
  go_wp2
  refine wp_loop_rounds 1 ?_
  rw [rounds_succ]
  go_wp2
  go_ret
  exact ⟨rfl, rfl⟩

set_option maxRecDepth 100000 in
set_option maxHeartbeats 1000000 in
theorem split_some (x : Nat) (hx : x < 18446744073709551616) (b off cap n : Nat) (xs : List Int) (w : World) (hxs : xs.length = n) (hn : n ≤ maxLen) (hb : b < w.heap.size)
    (h1 : ∀ i, i < n → w.cell? ⟨b, off + i, none⟩ = some (.int .i64 (xs[i]?.getD 0))) :
    Calls Tryz.prog 157 #[.int .u64 (x : Nat), .slice (some ⟨b, off, none⟩) n cap] w fun e w' =>
      ∃ v, e = .returned v ∧ w'.ownsRow w.heap.size 67 1 v ((splitTo x 0 xs).getD []).length (wrds ((splitTo x 0 xs).getD [])) ∧ Below w.heap.size w w' := by
  obtain ⟨i0, hi, hz0, hz1, hz2⟩ := info_parts info67
  have HX : Hid (x < 18446744073709551616) := hx
  have HX' : Hid ((x : Int) < 18446744073709551616) := by show (x : Int) < 18446744073709551616; omega
  have HXS : Hid (xs.length = n) := hxs
  clear hx hxs
  unfold maxLen at hn
  go_enter Tryz.func157, Tryz.ntmps157
  go_wp2
  go_loopw [5, 6, 11] (fun l low i wr => ∃ (k lo : Nat) (out : List Nat), k ≤ n ∧ i = .int .i64 k ∧ low = .int .i64 lo ∧ out.length ≤ lo ∧ lo ≤ 64 ∧ splitTo x 0 xs = (splitTo x lo (xs.drop k)).map (out ++ ·) ∧ wr.ownsRow w.heap.size 67 1 l out.length (wrds out) ∧ Below w.heap.size w wr)
    (fun _ _ i _ => n - (intOf i).toNat)
  case atStart => exact ⟨0, 0, [], Nat.zero_le _, rfl, rfl, by simp, by decide, by simp, World.ownsRow_nil _ _ _ _, Below.refl _ _⟩
  case round =>
    obtain ⟨k, lo, out, hk, rfl, rfl, hol, hlo, hsp, hown, hB⟩ := hrel
    have HSP : Hid (splitTo x 0 xs = (splitTo x lo (xs.drop k)).map (out ++ ·)) := hsp
    clear hsp
    by_cases hlt : k < n
    · have c1 : wr.cell? ⟨b, off + k, none⟩ = some (.int .i64 (xs[k]?.getD 0)) := (hB.cell (p := ⟨b, off + k, none⟩) hb).trans (h1 k hlt)
      have HD : Hid (xs.drop k = xs[k]?.getD 0 :: xs.drop (k + 1)) := by
        show xs.drop k = _
        have hk' : k < xs.length := by rw [HXS.out]; exact hlt
        rw [List.drop_eq_getElem_cons hk']
        simp [hk']
      generalize xs[k]?.getD 0 = z at c1 HD
      cases hf : isF (lo : Int) z
      · have HF : Hid (isF (lo : Int) z = false) := hf
        clear hf
        go_wp2_with (go_at_call 168; refine (isField_no _ _ _ HF.out).mono ?_; rintro e w' ⟨rfl, rfl⟩)
        go_ret
        refine ⟨_, rfl, ?_, hB⟩
        have e : splitTo x 0 xs = none := by rw [HSP.out, HD.out, splitTo_no _ _ _ _ HF.out]; rfl
        rw [e]
        exact World.ownsRow_nil _ _ _ _
      · have HF : Hid (isF (lo : Int) z = true) := hf
        obtain ⟨g1, g2, g3, g4⟩ := (isF_iff _ _).1 hf
        clear hf
        obtain ⟨g, hg⟩ : ∃ g, fGet x lo z = g := ⟨_, rfl⟩
        have HG : Hid (fGet x lo z = g) := hg
        clear hg
        go_wp2_with (first
          | (go_at_call 168; refine (isField_yes _ _ _ HF.out).mono ?_; rintro e w' ⟨rfl, hw'⟩; rw [hw']; clear hw' w')
          | (go_at_call 191; refine (get_any _ _ _ _ (Int.natCast_nonneg _) HX'.out).mono ?_; rintro e w' ⟨rfl, hw'⟩; rw [hw', Int.toNat_natCast, HG.out]; clear hw' w')
          | (at_builtin; (refine wpList_append_own _ rfl _ _ 60 rfl w.heap.size 67 i0 (.int .u64 0) 1 8 Tryz.underlying60 hi hz0 hz1 hz2 rfl (by decide) _ _ _ rfl (hown.alloc _) ⟨wr.heap.size, 0, none⟩ 1 1 [.int .u64 (g : Nat)] rfl rfl ?c1 ?c2 ?c3 ?c4 ?c5 ?_)))
        case c1 => exact cell_one_new _ _ _
        case c2 => simp [Value.oneCell']
        case c3 => unfold maxLen; omega
        case c4 => omega
        case c5 => have := hB.size; simp; omega
        intro v' w1 hown' hgrow _
        go_wp2
        obtain ⟨s, hs⟩ : ∃ s : Nat, z = s := ⟨z.toNat, by omega⟩
        subst hs
        refine ⟨⟨k + 1, lo + s, out ++ [g], by omega, by go_num, by go_num, by simp; omega, by omega, ?_, ?_, ?_⟩, by simp [intOf]; omega⟩
        · rw [HSP.out, HD.out, splitTo_yes _ _ _ _ HF.out, HG.out, Option.map_map, Int.natCast_add]
          congr 1
          funext y
          simp
        · simpa [wrds] using hown'
        · exact (hB.alloc hB.size _).grown hgrow (by have := hB.size; simp; omega) (fun k e => (hown.lt k e).1)
    · go_wp2
      go_ret
      refine ⟨_, rfl, ?_, hB⟩
      have e : splitTo x 0 xs = some out := by
        rw [HSP.out, List.drop_of_length_le (by rw [HXS.out]; omega)]; simp [splitTo]
      rw [e]
      exact hown

theorem Row.some' {k : IntKind} {w : World} {v : Value} {xs : List Int} (h : Row k w v xs) (hne : xs ≠ []) : ∃ b off cap, v = .slice (some ⟨b, off, none⟩) xs.length cap ∧ b < w.heap.size ∧ ∀ i, i < xs.length → w.cell? ⟨b, off + i, none⟩ = some (.int k (xs[i]?.getD 0)) := by
  obtain ⟨_, p, cap, rfl, hc⟩ := h
  obtain ⟨b, off, rfl, hb, hcell⟩ := hc hne
  exact ⟨b, off, cap, rfl, hb, hcell⟩

theorem split_any (x : Int) (h0 : 0 ≤ x) (hx : x < 18446744073709551616) (v : Value) (xs : List Int) (w : World) (h : Row .i64 w v xs) :
    Calls Tryz.prog 157 #[.int .u64 x, v] w fun e w' =>
      ∃ u, e = .returned u ∧ w'.ownsRow w.heap.size 67 1 u ((splitTo x.toNat 0 xs).getD []).length (wrds ((splitTo x.toNat 0 xs).getD [])) ∧ Below w.heap.size w w' := by
  by_cases hne : xs = []
  · subst hne
    obtain ⟨_, p, cap, rfl, _⟩ := h
    refine (split_nil x p cap w).mono ?_
    rintro e w' ⟨rfl, rfl⟩
    exact ⟨_, rfl, World.ownsRow_nil _ _ _ _, Below.refl _ _⟩
  · obtain ⟨b, off, cap, rfl, hb, hc⟩ := h.some' hne
    obtain ⟨y, rfl⟩ := Int.eq_ofNat_of_zero_le h0
    exact split_some y (by omega) b off cap xs.length xs w rfl h.1 hb hc

/-- An owned row reads as a list. -/
theorem Row.of_owns {k : IntKind} {w : World} {base : Nat} {e : TypeId} {v : Value} {xs : List Nat} (h : w.ownsRow base e 1 v xs.length (xs.map fun x => Value.int k (x : Nat))) (hl : xs.length ≤ maxLen) :
    Row k w v (xs.map fun x => ((x : Nat) : Int)) := by
  refine ⟨by simpa using hl, ?_⟩
  have hcs : ∀ {g : Nat}, v.ownBlock = some g → _ := fun {g} hg => h.cells (g := g) hg
  have hlt := h.lt
  obtain ⟨_, ⟨rfl, hn⟩ | ⟨g, cap, cur, rfl, _, _, _⟩⟩ := h
  · have : xs = [] := List.eq_nil_of_length_eq_zero hn
    subst this
    exact ⟨none, 0, rfl, fun h => absurd rfl h⟩
  · refine ⟨some ⟨g, 0, none⟩, cap, by simp, fun _ => ⟨g, 0, rfl, (hlt g rfl).2, fun i hi => ?_⟩⟩
    have hi' : i < xs.length := by simpa using hi
    have := hcs rfl i (.int k (xs[i] : Nat)) (by simp [hi'])
    have ha : ((⟨g, 0, none⟩ : Addr).add i) = ⟨g, i, none⟩ := by by_cases h : i = 0 <;> simp [Addr.add, h]
    rw [ha] at this
    simpa [hi'] using this

/-- A slice of parts in memory. -/
def PRow (w : World) (b off n : Nat) (l : List (Int × Int)) : Prop :=
  l.length = n ∧ b < w.heap.size ∧ ∀ i, i < n → w.cell? ⟨b, off + i * 2, none⟩ = some (.int .u64 (l[i]?.getD (0, 0)).1) ∧ w.cell? ⟨b, off + i * 2 + 1, none⟩ = some (.int .i64 (l[i]?.getD (0, 0)).2)

/-- What Pack hands back. -/
def packTo (x : Nat) : Int → List (Int × Int) → Nat
  | _, [] => x
  | low, p :: r => if isF low p.2 then packTo (fPut x low p.2 p.1.toNat) (low + p.2) r else 0

theorem packTo_yes (x : Nat) (low : Int) (p : Int × Int) (r : List (Int × Int)) (h : isF low p.2 = true) : packTo x low (p :: r) = packTo (fPut x low p.2 p.1.toNat) (low + p.2) r := by
  simp [packTo, h]

theorem packTo_no (x : Nat) (low : Int) (p : Int × Int) (r : List (Int × Int)) (h : isF low p.2 = false) : packTo x low (p :: r) = 0 := by
  simp [packTo, h]

set_option maxHeartbeats 400000 in
theorem pack_nil (p : Option Addr) (c : Nat) (w : World) :
    Calls Tryz.prog 138 #[.slice p 0 c] w fun e w' => e = .returned (.int .u64 0) ∧ w' = w := by
  go_enter Tryz.func138, Tryz.ntmps138
  go_wp2
  refine wp_loop_rounds 1 ?_
  rw [rounds_succ]
  go_wp2
  go_ret
  exact ⟨rfl, rfl⟩

set_option maxRecDepth 100000 in
set_option maxHeartbeats 1000000 in
theorem pack_some (b off cap n : Nat) (l : List (Int × Int)) (hV : ∀ p ∈ l, 0 ≤ p.1) (w : World) (hn : n ≤ maxLen) (hP : PRow w b off n l) :
    Calls Tryz.prog 138 #[.slice (some ⟨b, off, none⟩) n cap] w fun e w' => e = .returned (.int .u64 (packTo 0 0 l : Nat)) ∧ Below w.heap.size w w' := by
  obtain ⟨hl, hb, hc⟩ := hP
  have HXS : Hid (l.length = n) := hl
  clear hl
  unfold maxLen at hn
  go_enter Tryz.func138, Tryz.ntmps138
  go_wp2
  go_loopw [3, 4, 9] (fun x low i wr => ∃ (k lo y : Nat), k ≤ n ∧ i = .int .i64 k ∧ low = .int .i64 lo ∧ x = .int .u64 y ∧ y < 18446744073709551616 ∧ lo ≤ 64 ∧ packTo 0 0 l = packTo y lo (l.drop k) ∧ Below w.heap.size w wr)
    (fun _ _ i _ => n - (intOf i).toNat)
  case atStart => exact ⟨0, 0, 0, Nat.zero_le _, rfl, rfl, rfl, by decide, by decide, by simp, Below.refl _ _⟩
  case round =>
    obtain ⟨k, lo, y, hk, rfl, rfl, rfl, hy, hlo, hsp, hB⟩ := hrel
    have HY : Hid ((y : Int) < 18446744073709551616) := by show (y : Int) < 18446744073709551616; omega
    have HSP : Hid (packTo 0 0 l = packTo y lo (l.drop k)) := hsp
    clear hsp hy
    by_cases hlt : k < n
    · have c1 : wr.cell? ⟨b, off + k * 2, none⟩ = some (.int .u64 (l[k]?.getD (0, 0)).1) := (hB.cell (p := ⟨b, off + k * 2, none⟩) hb).trans (hc k hlt).1
      have c2 : wr.cell? ⟨b, off + k * 2 + 1, none⟩ = some (.int .i64 (l[k]?.getD (0, 0)).2) := (hB.cell (p := ⟨b, off + k * 2 + 1, none⟩) hb).trans (hc k hlt).2
      have HD : Hid (l.drop k = l[k]?.getD (0, 0) :: l.drop (k + 1)) := by
        show l.drop k = _
        have hk' : k < l.length := by rw [HXS.out]; exact hlt
        rw [List.drop_eq_getElem_cons hk']
        simp [hk']
      have HV : Hid (0 ≤ (l[k]?.getD (0, 0)).1) := by
        show 0 ≤ _
        have hk' : k < l.length := by rw [HXS.out]; exact hlt
        rw [List.getElem?_eq_getElem hk', Option.getD_some]
        exact hV _ (List.getElem_mem hk')
      generalize l[k]?.getD (0, 0) = q at c1 c2 HD HV
      obtain ⟨v, z⟩ := q
      simp only at c1 c2 HV
      cases hf : isF (lo : Int) z
      · have HF : Hid (isF (lo : Int) z = false) := hf
        clear hf
        go_wp2_with (go_at_call 168; refine (isField_no _ _ _ HF.out).mono ?_; rintro e w' ⟨rfl, hw'⟩; rw [hw']; clear hw' w')
        go_ret
        refine ⟨ret_int ?_, hB.alloc hB.size _⟩
        rw [HSP.out, HD.out, packTo_no _ _ _ _ HF.out]
        rfl
      · have HF : Hid (isF (lo : Int) z = true) := hf
        obtain ⟨g1, g2, g3, g4⟩ := (isF_iff _ _).1 hf
        clear hf
        obtain ⟨g, hg⟩ : ∃ g, fPut y lo z v.toNat = g := ⟨_, rfl⟩
        have hgl : g < 18446744073709551616 := by rw [← hg]; exact fPut_lt y lo z _ (by have := HY.out; omega)
        have HG : Hid (fPut y lo z v.toNat = g) := hg
        have HGL : Hid (g < 18446744073709551616) := hgl
        clear hg hgl
        go_wp2_with (first
          | (go_at_call 168; refine (isField_yes _ _ _ HF.out).mono ?_; rintro e w' ⟨rfl, hw'⟩; rw [hw']; clear hw' w')
          | (go_at_call 169; refine (put_any _ _ _ _ _ (Int.natCast_nonneg _) HY.out HV.out).mono ?_; rintro e w' ⟨rfl, hw'⟩; rw [hw', Int.toNat_natCast, HG.out]; clear hw' w'))
        obtain ⟨s, hs⟩ : ∃ s : Nat, z = s := ⟨z.toNat, by omega⟩
        subst hs
        refine ⟨⟨k + 1, lo + s, g, by omega, by go_num, by go_num, rfl, HGL.out, by omega, ?_, ?_⟩, by simp [intOf]; omega⟩
        · rw [HSP.out, HD.out, packTo_yes _ _ _ _ HF.out, HG.out, Int.natCast_add]
        · exact hB.alloc hB.size _
    · go_wp2
      go_ret
      refine ⟨ret_int ?_, hB⟩
      rw [HSP.out, List.drop_of_length_le (by rw [HXS.out]; omega)]
      rfl

theorem row_new2 (k : IntKind) (w : World) (t : TypeId) (a b : Int) : Row k (w.alloc (.cells #[.int k a, .int k b] t)) (.slice (some ⟨w.heap.size, 0, none⟩) 2 2) [a, b] := by
  refine ⟨by unfold maxLen; simp, _, _, rfl, fun _ => ⟨w.heap.size, 0, rfl, by simp, fun i hi => ?_⟩⟩
  rw [World.cell?_alloc_at _ _ _ _ rfl]
  match i, hi with
  | 0, _ => rfl
  | 1, _ => rfl

end Go.Proofs.YtpfmmlbakbhklaaGreatDoor.P
