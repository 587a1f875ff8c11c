/- What the document's answer to Split and Pack, and the statement's own copy of a list of parts, return; nothing that lay before is changed. -/
import Derived.Test.YthhilppeeffheaaDoorR2
import Derived.Deep.RegionHeld3
import Derived.Deep.AppendLies
namespace Go.Proofs.YthhilppeeffheaaDoor
open Go.RowKit

set_option maxHeartbeats 400000 in
theorem rsplit_nil (x : Int) (p : Option Addr) (c : Nat) (w : World) :
    Calls Tryd.prog 23 #[.int .u64 x, .slice p 0 c] w fun e w' => e = .returned (.slice none 0 0) ∧ w' = w := by
  go_enter Tryd.func23, Tryd.ntmps23
  go_wp2
  refine wp_loop_rounds 1 ?_
  rw [rounds_succ]
  go_wp2
  go_ret
  exact ⟨rfl, rfl⟩

set_option maxRecDepth 100000 in
set_option maxHeartbeats 1000000 in
theorem rsplit_some (x : Nat) (hx : x < 18446744073709551616) (b off cap n : Nat) (xs : List Int) (w : World) (hxs : xs.length = n) (hn : n ≤ maxLen) (hb : b < w.heap.size)
    (h1 : ∀ i, i < n → w.cell? ⟨b, off + i, none⟩ = some (.int .i64 (xs[i]?.getD 0))) :
    Calls Tryd.prog 23 #[.int .u64 (x : Nat), .slice (some ⟨b, off, none⟩) n cap] w fun e w' =>
      ∃ v, e = .returned v ∧ w'.ownsRow w.heap.size 22 1 v ((splitTo x 0 xs).getD []).length (wrds ((splitTo x 0 xs).getD [])) ∧ Below w.heap.size w w' := by
  obtain ⟨i0, hi, hz0, hz1, hz2⟩ := info_parts info22
  have HX : Hid (x < 18446744073709551616) := hx
  have HX' : Hid ((x : Int) < 18446744073709551616) := by show (x : Int) < 18446744073709551616; omega
  have HXS : Hid (xs.length = n) := hxs
  clear hx hxs
  unfold maxLen at hn
  go_enter Tryd.func23, Tryd.ntmps23
  go_wp2
  go_loopw [5, 6, 7] (fun l low i wr => ∃ (k lo : Nat) (out : List Nat), k ≤ n ∧ i = .int .i64 k ∧ low = .int .i64 lo ∧ out.length ≤ lo ∧ lo ≤ 64 ∧ splitTo x 0 xs = (splitTo x lo (xs.drop k)).map (out ++ ·) ∧ wr.ownsRow w.heap.size 22 1 l out.length (wrds out) ∧ Below w.heap.size w wr)
    (fun _ _ i _ => n - (intOf i).toNat)
  case atStart => exact ⟨0, 0, [], Nat.zero_le _, rfl, rfl, by simp, by decide, by simp, World.ownsRow_nil _ _ _ _, Below.refl _ _⟩
  case round =>
    obtain ⟨k, lo, out, hk, rfl, rfl, hol, hlo, hsp, hown, hB⟩ := hrel
    have HSP : Hid (splitTo x 0 xs = (splitTo x lo (xs.drop k)).map (out ++ ·)) := hsp
    clear hsp
    by_cases hlt : k < n
    · have c1 : wr.cell? ⟨b, off + k, none⟩ = some (.int .i64 (xs[k]?.getD 0)) := (hB.cell (p := ⟨b, off + k, none⟩) hb).trans (h1 k hlt)
      have HD : Hid (xs.drop k = xs[k]?.getD 0 :: xs.drop (k + 1)) := by
        show xs.drop k = _
        have hk' : k < xs.length := by rw [HXS.out]; exact hlt
        rw [List.drop_eq_getElem_cons hk']
        simp [hk']
      generalize xs[k]?.getD 0 = z at c1 HD
      cases hf : isF (lo : Int) z
      · have HF : Hid (isF (lo : Int) z = false) := hf
        clear hf
        go_wp2_with (go_at_call 29; refine (is_no _ _ _ HF.out).mono ?_; rintro e w' ⟨rfl, rfl⟩)
        go_ret
        refine ⟨_, rfl, ?_, hB⟩
        have e : splitTo x 0 xs = none := by rw [HSP.out, HD.out, splitTo_no _ _ _ _ HF.out]; rfl
        rw [e]
        exact World.ownsRow_nil _ _ _ _
      · have HF : Hid (isF (lo : Int) z = true) := hf
        obtain ⟨g1, g2, g3, g4⟩ := (isF_iff _ _).1 hf
        clear hf
        obtain ⟨g, hg⟩ : ∃ g, fGet x lo z = g := ⟨_, rfl⟩
        have HG : Hid (fGet x lo z = g) := hg
        clear hg
        go_wp2_with (first
          | (go_at_call 29; refine (is_yes _ _ _ HF.out).mono ?_; rintro e w' ⟨rfl, hw'⟩; rw [hw']; clear hw' w')
          | (go_at_call 12; refine (rget_any _ _ _ _ (Int.natCast_nonneg _) HX'.out).mono ?_; rintro e w' ⟨rfl, hw'⟩; rw [hw', Int.toNat_natCast, HG.out]; clear hw' w')
          | (at_builtin; refine wpList_append_own _ rfl _ _ 35 rfl w.heap.size 22 i0 (.int .u64 0) 1 8 Tryd.underlying35 hi hz0 hz1 hz2 rfl (by decide) _ _ _ rfl (hown.alloc _) ⟨wr.heap.size, 0, none⟩ 1 1 [.int .u64 (g : Nat)] rfl rfl ?c1 ?c2 ?c3 ?c4 ?c5 ?_))
        case c1 => exact cell_one_new _ _ _
        case c2 => simp [Value.oneCell']
        case c3 => unfold maxLen; omega
        case c4 => omega
        case c5 => have := hB.size; simp; omega
        intro v' w1 hown' hgrow _
        have hB1 : Below w.heap.size w w1 := (hB.alloc hB.size _).grown hgrow (by have := hB.size; simp; omega) (fun k e => (hown.lt k e).1)
        have c2 : w1.cell? ⟨b, off + k, none⟩ = some (.int .i64 z) := by
          rw [hB1.cell (p := ⟨b, off + k, none⟩) hb, ← hB.cell (p := ⟨b, off + k, none⟩) hb]; exact c1
        clear hgrow c1
        go_wp2
        obtain ⟨s, hs⟩ : ∃ s : Nat, z = s := ⟨z.toNat, by omega⟩
        subst hs
        refine ⟨⟨k + 1, lo + s, out ++ [g], by omega, by go_num, by go_num, by simp; omega, by omega, ?_, ?_, hB1⟩, by simp [intOf]; omega⟩
        · rw [HSP.out, HD.out, splitTo_yes _ _ _ _ HF.out, HG.out, Option.map_map, Int.natCast_add]
          congr 1
          funext y
          simp
        · simpa [wrds] using hown'
    · go_wp2
      go_ret
      refine ⟨_, rfl, ?_, hB⟩
      have e : splitTo x 0 xs = some out := by
        rw [HSP.out, List.drop_of_length_le (by rw [HXS.out]; omega)]; simp [splitTo]
      rw [e]
      exact hown

theorem rsplit_any (x : Int) (h0 : 0 ≤ x) (hx : x < 18446744073709551616) (v : Value) (xs : List Int) (w : World) (h : Row .i64 w v xs) :
    Calls Tryd.prog 23 #[.int .u64 x, v] w fun e w' =>
      ∃ u, e = .returned u ∧ w'.ownsRow w.heap.size 22 1 u ((splitTo x.toNat 0 xs).getD []).length (wrds ((splitTo x.toNat 0 xs).getD [])) ∧ Below w.heap.size w w' := by
  by_cases hne : xs = []
  · subst hne
    obtain ⟨_, p, cap, rfl, _⟩ := h
    refine (rsplit_nil x p cap w).mono ?_
    rintro e w' ⟨rfl, rfl⟩
    exact ⟨_, rfl, World.ownsRow_nil _ _ _ _, Below.refl _ _⟩
  · obtain ⟨b, off, cap, rfl, hb, hc⟩ := h.some' hne
    obtain ⟨y, rfl⟩ := Int.eq_ofNat_of_zero_le h0
    exact rsplit_some y (by omega) b off cap xs.length xs w rfl h.1 hb hc

set_option maxHeartbeats 400000 in
theorem rpack_nil (p : Option Addr) (c : Nat) (w : World) :
    Calls Tryd.prog 25 #[.slice p 0 c] w fun e w' => e = .returned (.int .u64 0) ∧ w' = w := by
  go_enter Tryd.func25, Tryd.ntmps25
  go_wp2
  refine wp_loop_rounds 1 ?_
  rw [rounds_succ]
  go_wp2
  go_ret
  exact ⟨rfl, rfl⟩

set_option maxRecDepth 100000 in
set_option maxHeartbeats 1000000 in
theorem rpack_some (b off cap n : Nat) (l : List (Int × Int)) (hV : ∀ p ∈ l, 0 ≤ p.1 ∧ p.1 < 18446744073709551616) (w : World) (hn : n ≤ maxLen) (hP : PRow w b off n l) :
    Calls Tryd.prog 25 #[.slice (some ⟨b, off, none⟩) n cap] w fun e w' => e = .returned (.int .u64 (packTo 0 0 l : Nat)) ∧ ∃ m, w' = w.drewN m := by
  obtain ⟨hl, _, hc⟩ := hP
  have HXS : Hid (l.length = n) := hl
  clear hl
  unfold maxLen at hn
  go_enter Tryd.func25, Tryd.ntmps25
  go_wp2
  go_loopw [3, 4, 5] (fun x low i wr => (∃ (k lo y : Nat), k ≤ n ∧ i = .int .i64 k ∧ low = .int .i64 lo ∧ x = .int .u64 y ∧ y < 18446744073709551616 ∧ lo ≤ 64 ∧ packTo 0 0 l = packTo y lo (l.drop k)) ∧ ∃ m, wr = w.drewN m)
    (fun _ _ i _ => n - (intOf i).toNat)
  case atStart => exact ⟨⟨0, 0, 0, Nat.zero_le _, rfl, rfl, rfl, by decide, by decide, by simp⟩, 0, rfl⟩
  case round =>
    obtain ⟨⟨k, lo, y, hk, rfl, rfl, rfl, hy, hlo, hsp⟩, m, hm⟩ := hrel
    have HM : Hid (wr = w.drewN m) := hm
    clear hm
    have HY : Hid ((y : Int) < 18446744073709551616) := by show (y : Int) < 18446744073709551616; omega
    have HSP : Hid (packTo 0 0 l = packTo y lo (l.drop k)) := hsp
    clear hsp hy
    by_cases hlt : k < n
    · have c1 : wr.cell? ⟨b, off + k * 2, none⟩ = some (.int .u64 (l[k]?.getD (0, 0)).1) := by rw [HM.out]; exact (hc k hlt).1
      have c2 : wr.cell? ⟨b, off + k * 2 + 1, none⟩ = some (.int .i64 (l[k]?.getD (0, 0)).2) := by rw [HM.out]; exact (hc k hlt).2
      have HD : Hid (l.drop k = l[k]?.getD (0, 0) :: l.drop (k + 1)) := by
        show l.drop k = _
        have hk' : k < l.length := by rw [HXS.out]; exact hlt
        rw [List.drop_eq_getElem_cons hk']
        simp [hk']
      have HV : Hid (0 ≤ (l[k]?.getD (0, 0)).1 ∧ (l[k]?.getD (0, 0)).1 < 18446744073709551616) := by
        show 0 ≤ _ ∧ _
        have hk' : k < l.length := by rw [HXS.out]; exact hlt
        rw [List.getElem?_eq_getElem hk', Option.getD_some]
        exact hV _ (List.getElem_mem hk')
      generalize l[k]?.getD (0, 0) = q at c1 c2 HD HV
      obtain ⟨v, z⟩ := q
      simp only at c1 c2 HV
      clear hc
      cases hf : isF (lo : Int) z
      · have HF : Hid (isF (lo : Int) z = false) := hf
        clear hf
        go_wp2_with (go_at_call 29; refine (is_no _ _ _ HF.out).mono ?_; rintro e w' ⟨rfl, hw'⟩; rw [hw']; clear hw' w')
        go_ret
        refine ⟨ret_int ?_, m, HM.out⟩
        rw [HSP.out, HD.out, packTo_no _ _ _ _ HF.out]
        rfl
      · have HF : Hid (isF (lo : Int) z = true) := hf
        obtain ⟨g1, g2, g3, g4⟩ := (isF_iff _ _).1 hf
        clear hf
        obtain ⟨g, hg⟩ : ∃ g, fPut y lo z v.toNat = g := ⟨_, rfl⟩
        have hgl : g < 18446744073709551616 := by rw [← hg]; exact fPut_lt y lo z _ (by have := HY.out; omega)
        have HG : Hid (fPut y lo z v.toNat = g) := hg
        have HGL : Hid (g < 18446744073709551616) := hgl
        clear hg hgl
        have HPUT : ∀ W, Calls Tryd.prog 14 #[.int .u64 y, .int .i64 lo, .int .i64 z, .int .u64 v] W fun e w' => e = .returned (.int .u64 g) ∧ w' = W := fun W => by
          have := rput_any y lo z v W (Int.natCast_nonneg _) HY.out HV.out.1 HV.out.2
          rwa [Int.toNat_natCast, HG.out] at this
        have HPUT' : Hid _ := HPUT
        clear HPUT
        go_wp2_with (go_at_call 29; refine (is_yes _ _ _ HF.out).mono ?_; rintro e w' ⟨rfl, hw'⟩; rw [hw']; clear hw' w')
        go_quiet ((go_at_call 14; exact Calls.quiet_of_same (HPUT'.out _)))
        go_wp2
        obtain ⟨s, hs⟩ : ∃ s : Nat, z = s := ⟨z.toNat, by omega⟩
        subst hs
        refine ⟨⟨⟨k + 1, lo + s, g, by omega, by go_num, by go_num, rfl, HGL.out, by omega, ?_⟩, m + nq, by rw [HM.out, World.drewN_drewN]⟩, by simp [intOf]; omega⟩
        rw [HSP.out, HD.out, packTo_yes _ _ _ _ HF.out, HG.out, Int.natCast_add]
    · go_wp2
      go_ret
      refine ⟨ret_int ?_, m, HM.out⟩
      rw [HSP.out, List.drop_of_length_le (by rw [HXS.out]; omega)]
      rfl

theorem info61 : (Tryd.prog.info? 61).map (fun i => (i.zero, i.size, i.bytes)) = some (some (.agg #[.int .u64 0, .int .i64 0]), 2, 16) := by kernel_rfl

/-- parts, cell by cell, of whatever numbers -/
def icells : List (Int × Int) → List Value
  | [] => []
  | p :: r => .int .u64 p.1 :: .int .i64 p.2 :: icells r
theorem icells_snoc (l : List (Int × Int)) (p : Int × Int) : icells (l ++ [p]) = icells l ++ [.int .u64 p.1, .int .i64 p.2] := by
  induction l with
  | nil => rfl
  | cons q r ih => simp [icells, ih]
theorem icells_at : ∀ (l : List (Int × Int)) (i : Nat), i < l.length → (icells l)[i * 2]? = some (.int .u64 (l[i]?.getD (0, 0)).1) ∧ (icells l)[i * 2 + 1]? = some (.int .i64 (l[i]?.getD (0, 0)).2)
  | [], i, h => by simp at h
  | p :: r, 0, _ => ⟨rfl, rfl⟩
  | p :: r, i + 1, h => by
    have ih := icells_at r i (by simpa using h)
    have e1 : (i + 1) * 2 = i * 2 + 2 := by omega
    rw [e1]
    exact ⟨by simpa [icells] using ih.1, by simpa [icells] using ih.2⟩
theorem addr_add' (g j : Nat) : ((⟨g, 0, none⟩ : Addr).add j) = ⟨g, j, none⟩ := by by_cases h : j = 0 <;> simp [Addr.add, h]
theorem iprow_of_owns {w : World} {base : Nat} {e : TypeId} {v : Value} {l : List (Int × Int)} {n : Nat} (hl : l.length = n) (hn : 0 < n) (h : w.ownsRow base e 2 v n (icells l)) :
    ∃ g cap, v = .slice (some ⟨g, 0, none⟩) n cap ∧ PRow w g 0 n l := by
  have hcs : ∀ {g : Nat}, v.ownBlock = some g → _ := fun {g} hg => h.cells (g := g) hg
  have hlt := h.lt
  obtain ⟨_, ⟨_, h0⟩ | ⟨g, cap, cur, rfl, _, _⟩⟩ := h
  · omega
  · refine ⟨g, cap, rfl, hl, (hlt g rfl).2, fun i hi => ?_⟩
    obtain ⟨a, b⟩ := icells_at l i (by omega)
    have ca := hcs rfl _ _ a
    have cb := hcs rfl _ _ b
    rw [addr_add'] at ca cb
    simp only [Nat.zero_add]
    exact ⟨ca, cb⟩

set_option maxHeartbeats 400000 in
theorem parts_nil (p : Option Addr) (c : Nat) (w : World) :
    Calls Tryd.prog 26 #[.slice p 0 c] w fun e w' => e = .returned (.slice none 0 0) ∧ w' = w := by
  go_enter Tryd.func26, Tryd.ntmps26
  go_wp2
  refine wp_loop_rounds 1 ?_
  rw [rounds_succ]
  go_wp2
  go_ret
  exact ⟨rfl, rfl⟩

/-- What is held of the world while a part is copied. -/
abbrev PaS (w : World) (b off : Nat) (v z : Int) (w' : World) : Prop :=
  (w'.cell? ⟨b, off, none⟩ = some (.int .u64 v) ∧ w'.cell? ⟨b, off + 1, none⟩ = some (.int .i64 z)) ∧ Below w.heap.size w w'
theorem PaS.alloc {w : World} {b off : Nat} {v z : Int} {W : World} (hb : b < w.heap.size) (h : PaS w b off v z W) (o : Obj) : PaS w b off v z (W.alloc o) :=
  have hlt : b < W.heap.size := Nat.lt_of_lt_of_le hb h.2.size
  ⟨⟨by rw [World.cell?_alloc_past _ _ _ hlt]; exact h.1.1, by rw [World.cell?_alloc_past _ _ _ hlt]; exact h.1.2⟩, h.2.alloc h.2.size o⟩
theorem PaS.grown {w : World} {b off : Nat} {v z : Int} {W W' : World} {row : Option Nat} (hb : b < w.heap.size) (h : PaS w b off v z W) (hg : W.grownBy W' row) (hr : ∀ k, row = some k → w.heap.size ≤ k) : PaS w b off v z W' := by
  have hB : Below w.heap.size w W' := h.2.grown hg h.2.size hr
  refine ⟨⟨?_, ?_⟩, hB⟩
  · rw [hB.cell (p := ⟨b, off, none⟩) hb, ← h.2.cell (p := ⟨b, off, none⟩) hb]; exact h.1.1
  · rw [hB.cell (p := ⟨b, off + 1, none⟩) hb, ← h.2.cell (p := ⟨b, off + 1, none⟩) hb]; exact h.1.2

set_option maxRecDepth 100000 in
set_option maxHeartbeats 1000000 in
theorem parts_some (b off cap n : Nat) (l : List (Int × Int)) (w : World) (hn : n ≤ 100) (hP : PRow w b off n l) :
    Calls Tryd.prog 26 #[.slice (some ⟨b, off, none⟩) n cap] w fun e w' => ∃ v, e = .returned v ∧ w'.ownsRow w.heap.size 61 2 v n (icells l) ∧ Below w.heap.size w w' := by
  obtain ⟨i0, hi, hz0, hz1, hz2⟩ := info_parts info61
  obtain ⟨hl, hb, hc⟩ := hP
  have HXS : Hid (l.length = n) := hl
  clear hl
  go_enter Tryd.func26, Tryd.ntmps26
  go_wp2
  go_loopw [3, 4] (fun o i wr => ∃ k : Nat, k ≤ n ∧ i = .int .i64 k ∧ wr.ownsRow w.heap.size 61 2 o k (icells (l.take k)) ∧ Below w.heap.size w wr) (fun _ i _ => n - (intOf i).toNat)
  case atStart => exact ⟨0, Nat.zero_le _, rfl, World.ownsRow_nil _ _ _ _, Below.refl _ _⟩
  case round =>
    obtain ⟨k, hk, rfl, hown, hB⟩ := hrel
    by_cases hlt : k < n
    · have c1 : wr.cell? ⟨b, off + k * 2, none⟩ = some (.int .u64 (l[k]?.getD (0, 0)).1) := (hB.cell (p := ⟨b, off + k * 2, none⟩) hb).trans (hc k hlt).1
      have c2 : wr.cell? ⟨b, off + k * 2 + 1, none⟩ = some (.int .i64 (l[k]?.getD (0, 0)).2) := (hB.cell (p := ⟨b, off + k * 2 + 1, none⟩) hb).trans (hc k hlt).2
      have HD : Hid (l.take (k + 1) = l.take k ++ [l[k]?.getD (0, 0)]) := by
        show l.take (k + 1) = _
        have hk' : k < l.length := by rw [HXS.out]; exact hlt
        rw [List.take_succ_eq_append_getElem hk']
        simp [hk']
      generalize l[k]?.getD (0, 0) = q at c1 c2 HD
      obtain ⟨v, z⟩ := q
      simp only at c1 c2
      clear hc
      have hS0 : PaS w b (off + k * 2) v z wr.drew := ⟨⟨c1, c2⟩, hB.drew⟩
      have hS1 : PaS w b (off + k * 2) v z (wr.drew.alloc (.cells #[.int .u64 v, .int .i64 z] 61)) := hS0.alloc hb _
      have hS1' : PaS w b (off + k * 2) v z (wr.alloc (.cells #[.int .u64 v, .int .i64 z] 61)).drew := hS1
      have hown1 : (wr.alloc (.cells #[.int .u64 v, .int .i64 z] 61)).drew.ownsRow w.heap.size 61 2 u3 k (icells (l.take k)) := (hown.alloc _).drew
      have hnew1 : ∀ j u, [Value.int .u64 v, Value.int .i64 z][j]? = some u → (wr.alloc (.cells #[.int .u64 v, .int .i64 z] 61)).drew.cell? ((⟨wr.heap.size, 0, none⟩ : Addr).add j) = some u := cell_two_new wr _ _ 61
      have hone1 : ∀ u ∈ [Value.int .u64 v, Value.int .i64 z], u.oneCell' = true := by simp [Value.oneCell']
      have hb63 : k + 1 ≤ maxLen := by unfold maxLen; omega
      have hbyt : (k + 1) * 16 ≤ 140737488355328 := by omega
      have hbase : w.heap.size ≤ (wr.alloc (.cells #[.int .u64 v, .int .i64 z] 61)).drew.heap.size := by have := hB.size; simp; omega
      have hlt3 := hown.lt
      go_wp2
      go_region_held3 (fun w' => (w'.cell? ⟨b, off + k * 2, none⟩ = some (.int .u64 v) ∧ w'.cell? ⟨b, off + k * 2 + 1, none⟩ = some (.int .i64 z)) ∧ Below w.heap.size w w') (first | exact hS0 | exact hS1' | assumption)
        (first
          | (refine step_append_lies _ rfl _ _ 39 rfl w.heap.size 61 i0 (.agg #[.int .u64 0, .int .i64 0]) 2 16 Tryd.underlying39 hi hz0 hz1 hz2 rfl (by decide) _ k _ rfl hown1 ⟨wr.heap.size, 0, none⟩ 1 1 _ rfl rfl hnew1 hone1 (by decide) hb63 hbyt hbase _ rfl ?_; intro g' cap' w1 hown' hgrow _ _; have hS2 := PaS.grown hb hS1' hgrow (fun k e => (hlt3 k e).1)))
      all_goals go_wp2
      all_goals (refine ⟨⟨k + 1, by omega, by go_num, ?_, ?_⟩, by simp [intOf]; omega⟩)
      all_goals first | (rw [HD.out, icells_snoc]; assumption) | exact And.right (b := Below w.heap.size w _) (show PaS w b (off + k * 2) v z _ by assumption)
    · have hkn : k = n := by omega
      subst hkn
      go_wp2
      go_ret
      refine ⟨_, rfl, ?_, hB⟩
      rw [List.take_of_length_le (by rw [HXS.out]; exact Nat.le_refl _)] at hown
      exact hown
end Go.Proofs.YthhilppeeffheaaDoor
