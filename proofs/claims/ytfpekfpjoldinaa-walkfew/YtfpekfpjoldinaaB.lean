/- Two memories, the program's and the document's, in which the same words were laid (both). Conditions: the words are below 2^64. -/
import Derived.Test.YtfpekfpjoldinaaS6
import Derived.Test.YtfpekfpjoldinaaR1
namespace Go.Proofs.Ytfpekfpjoldinaa
open Go.RowKit

/-- A slice that reads as words and where they are laid. -/
def Wl (w : World) (v : Value) (l : List (Int × Int)) : Prop :=
  l.length ≤ maxLen ∧ ∃ q c, v = .slice q l.length c ∧ (l ≠ [] → ∃ b off, q = some ⟨b, off, none⟩ ∧ b < w.heap.size ∧ ∀ i, i < l.length → w.cell? ⟨b, off + i * 2, none⟩ = some (.int .i64 (l.getD i (0, 0)).1) ∧ w.cell? ⟨b, off + i * 2 + 1, none⟩ = some (.int .u64 (l.getD i (0, 0)).2))
theorem Wl.below' {w w' : World} {v : Value} {l : List (Int × Int)} (h : Wl w v l) (k : Below w.heap.size w w') : Wl w' v l := by
  obtain ⟨hV, q, c, rfl, hc⟩ := h
  refine ⟨hV, q, c, rfl, fun hne => ?_⟩
  obtain ⟨b, off, rfl, h1, h2⟩ := hc hne
  exact ⟨b, off, rfl, Nat.lt_of_lt_of_le h1 k.size, fun i hi => ⟨(k.cell (p := ⟨b, off + i * 2, none⟩) h1).trans (h2 i hi).1, (k.cell (p := ⟨b, off + i * 2 + 1, none⟩) h1).trans (h2 i hi).2⟩⟩
def V64 (l : List (Int × Int)) : Prop := ∀ i, 0 ≤ (l.getD i (0, 0)).2 ∧ (l.getD i (0, 0)).2 < 18446744073709551616
def sAt (l : List (Int × Int)) : Nat → St
  | 0 => ⟨List.replicate 160 0, 0, 0⟩
  | k + 1 => storeT (sAt l k) (l.getD k (0, 0)).1 (l.getD k (0, 0)).2
def bothS (l : List (Int × Int)) : St := sAt l (min l.length 200)
theorem sAt_cnt (l : List (Int × Int)) : ∀ k, Cnt (sAt l k) k
  | 0 => ⟨Int.le_refl _, Int.le_refl _, Int.le_refl _, Int.le_refl _⟩
  | k + 1 => (sAt_cnt l k).store _ _
theorem U64.set {xs : List Int} (h : U64 xs) (i : Nat) (v : Int) (h0 : 0 ≤ v) (h1 : v < 18446744073709551616) : U64 (xs.set i v) := fun j => by
  simp only [List.getD, List.getElem?_set]
  split
  · split
    · exact ⟨h0, h1⟩
    · exact ⟨Int.le_refl _, by decide⟩
  · exact h j
theorem U64.store {s : St} (h : U64 s.xs) (a v : Int) (h0 : 0 ≤ v) (h1 : v < 18446744073709551616) : U64 (storeT s a v).xs := by
  rw [storeT_xs]
  split
  · exact h.set _ _ h0 h1
  · exact h
theorem sAt_u64 (l : List (Int × Int)) (h : V64 l) : ∀ k, U64 (sAt l k).xs
  | 0 => fun i => by
    simp only [sAt, List.getD, List.getElem?_replicate]
    split <;> exact ⟨Int.le_refl _, by decide⟩
  | k + 1 => (sAt_u64 l h k).store _ _ (h k).1 (h k).2
theorem bothS_cnt (l : List (Int × Int)) : Cnt (bothS l) 200 := (sAt_cnt l _).mono (Nat.min_le_right _ _)
theorem bothS_u64 {l : List (Int × Int)} (h : V64 l) : U64 (bothS l).xs := sAt_u64 l h _

/-- Both memories, and that all this is new. -/
structure Bo (w0 w : World) (p b q c : Nat) (s t : St) : Prop where
  pm : Mem 76 w p b s
  rm : Mem 85 w q c t
  bel : Below w0.heap.size w0 w
  p0 : w0.heap.size ≤ p
  b0 : w0.heap.size ≤ b
  q0 : w0.heap.size ≤ q
  c0 : w0.heap.size ≤ c
  pq : p ≠ q
  pc : p ≠ c
  bq : b ≠ q
  bc : b ≠ c
theorem Bo.below {w0 w w' : World} {p b q c : Nat} {s t : St} (h : Bo w0 w p b q c s t) (k : Below w.heap.size w w') : Bo w0 w' p b q c s t :=
  { h with pm := h.pm.below k, rm := h.rm.below k, bel := bel_trans h.bel k }
theorem Bo.left {w0 w w' : World} {p b q c : Nat} {s t s' : St} (h : Bo w0 w p b q c s t) (m : Mem 76 w' p b s') (k : But p b w w') : Bo w0 w' p b q c s' t :=
  { h with pm := m, rm := h.rm.but k h.pq.symm h.bq.symm h.pc.symm h.bc.symm, bel := h.bel.trans (k.below h.bel.size h.p0 h.b0) }
theorem Bo.right {w0 w w' : World} {p b q c : Nat} {s t t' : St} (h : Bo w0 w p b q c s t) (m : Mem 85 w' q c t') (k : But q c w w') : Bo w0 w' p b q c s t' :=
  { h with rm := m, pm := h.pm.but k h.pq h.pc h.bq h.bc, bel := h.bel.trans (k.below h.bel.size h.q0 h.c0) }
theorem But.cell {p b q i : Nat} {w w' : World} {v : Value} (h : But p b w w') (hc : w.cell? ⟨q, i, none⟩ = some v) (h1 : q ≠ p) (h2 : q ≠ b) : w'.cell? ⟨q, i, none⟩ = some v := by
  have lt : q < w.heap.size := World.block_lt_of_cell? w ⟨_, _, none⟩ hc
  simp only [World.cell?, h.block q lt h1 h2] at hc ⊢
  exact hc

/-- A word is laid in the program's memory, then in the document's: the cells that are read stay. -/
theorem lay_one {w0 w : World} {p b q c ab o1 o2 k : Nat} {s t : St} {x y : Int} (h : Bo w0 w p b q c s t) (cn : Cnt s k) (hk : k ≤ bnd) (ha : ab < w0.heap.size) (c1 : w.cell? ⟨ab, o1, none⟩ = some (.int .i64 x)) (c2 : w.cell? ⟨ab, o2, none⟩ = some (.int .u64 y)) :
    Calls Try.prog 19 #[.pointer (some ⟨p, 0, none⟩), .int .i64 x, .int .u64 y] w fun e w' => e = .returned (.int .i64 (errV s x)) ∧ Hid (Bo w0 w' p b q c (storeT s x y) t) ∧ w'.cell? ⟨ab, o1, none⟩ = some (.int .i64 x) ∧ w'.cell? ⟨ab, o2, none⟩ = some (.int .u64 y) := by
  have := h.p0
  have := h.b0
  exact (store_any h.pm cn hk x y).mono fun e w' ⟨a, m, d⟩ => ⟨a, hid (h.left m d), d.cell c1 (by omega) (by omega), d.cell c2 (by omega) (by omega)⟩
theorem lay_two {w0 w : World} {p b q c ab o1 o2 k : Nat} {s t : St} {x y : Int} (h : Bo w0 w p b q c s t) (cn : Cnt t k) (hk : k ≤ bnd) (ha : ab < w0.heap.size) (c1 : w.cell? ⟨ab, o1, none⟩ = some (.int .i64 x)) (c2 : w.cell? ⟨ab, o2, none⟩ = some (.int .u64 y)) :
    Calls Try.prog 24 #[.pointer (some ⟨q, 0, none⟩), .int .i64 x, .int .u64 y] w fun e w' => e = .returned (.int .i64 (errV t x)) ∧ Hid (Bo w0 w' p b q c s (storeT t x y)) ∧ w'.cell? ⟨ab, o1, none⟩ = some (.int .i64 x) ∧ w'.cell? ⟨ab, o2, none⟩ = some (.int .u64 y) := by
  have := h.q0
  have := h.c0
  exact (rstore_any h.rm cn hk x y).mono fun e w' ⟨a, m, d⟩ => ⟨a, hid (h.right m d), d.cell c1 (by omega) (by omega), d.cell c2 (by omega) (by omega)⟩
theorem Bo.first {w w1 w2 : World} (h1 : IsMem 76 w1 (w.heap.size + 1) w.heap.size (List.replicate 160 0) 0 0) (h2 : Below w.heap.size w w1) (h3 : IsMem 85 w2 (w1.heap.size + 1) w1.heap.size (List.replicate 160 0) 0 0) (h4 : Below w1.heap.size w1 w2) (l : List (Int × Int)) :
    Bo w w2 (w.heap.size + 1) w.heap.size (w1.heap.size + 1) w1.heap.size (sAt l 0) (sAt l 0) := by
  have := h1.lt
  exact ⟨h1.below h4, h3, bel_trans h2 h4, by omega, by omega, by omega, by omega, by omega, by omega, by omega, by omega⟩

set_option maxRecDepth 100000 in
set_option maxHeartbeats 1000000 in
theorem both_nil (w : World) (aq : Option Addr) (ac : Nat) : Calls Try.prog 8 #[.slice aq 0 ac] w fun e w' => ∃ p b q c, e = .returned (.tuple #[.pointer (some ⟨p, 0, none⟩), .pointer (some ⟨q, 0, none⟩)]) ∧ Bo w w' p b q c (bothS []) (bothS []) := by
  go_enter Try.func8, Try.ntmps8
  go_wp2_with fail
  refine (new_yes 160 _ (by decide) (by decide)).mono ?_
  rintro e w1 ⟨rfl, h1, h2⟩
  have H1 := hid h1
  have H2 := hid h2
  clear h1 h2
  go_wp2_with fail
  refine (rnew_yes 160 _ (by decide) (by decide)).mono ?_
  rintro e w2 ⟨rfl, h3, h4⟩
  have HB := hid (Bo.first H1.out H2.out h3 h4 [])
  clear h3 h4 H1 H2
  generalize w1.heap.size + 1 = q at *
  generalize w1.heap.size = c at *
  go_wp2_with fail
  refine wp_loop_rounds 1 ?_
  rw [rounds_succ]
  go_wp2
  go_ret2
  exact ⟨_, _, _, _, rfl, HB.out⟩

set_option maxRecDepth 100000 in
set_option maxHeartbeats 2000000 in
theorem both_some {w : World} {l : List (Int × Int)} (ab off ac n : Nat) (hn : l.length = n) (hm : n ≤ maxLen) (ha : ab < w.heap.size)
    (hc : ∀ i, i < n → w.cell? ⟨ab, off + i * 2, none⟩ = some (.int .i64 (l.getD i (0, 0)).1) ∧ w.cell? ⟨ab, off + i * 2 + 1, none⟩ = some (.int .u64 (l.getD i (0, 0)).2)) :
    Calls Try.prog 8 #[.slice (some ⟨ab, off, none⟩) n ac] w fun e w' => ∃ p b q c, e = .returned (.tuple #[.pointer (some ⟨p, 0, none⟩), .pointer (some ⟨q, 0, none⟩)]) ∧ Bo w w' p b q c (bothS l) (bothS l) := by
  have HC := hid hc
  have HN := hid hn
  have HA := hid ha
  unfold maxLen at hm
  clear hc hn ha
  go_enter Try.func8, Try.ntmps8
  go_wp2_with fail
  refine (new_yes 160 _ (by decide) (by decide)).mono ?_
  rintro e w1 ⟨rfl, h1, h2⟩
  have H1 := hid h1
  have H2 := hid h2
  clear h1 h2
  go_wp2_with fail
  refine (rnew_yes 160 _ (by decide) (by decide)).mono ?_
  rintro e w2 ⟨rfl, h3, h4⟩
  have HB := hid (Bo.first H1.out H2.out h3 h4 l)
  clear h3 h4 H1 H2
  generalize w1.heap.size + 1 = q at *
  generalize w1.heap.size = c at *
  obtain ⟨b, hb⟩ : ∃ b, b = w.heap.size := ⟨_, rfl⟩
  obtain ⟨p, hp⟩ : ∃ p, p = w.heap.size + 1 := ⟨_, rfl⟩
  rw [← hp, ← hb] at HB
  rw [← hp]
  clear hb hp
  go_wp2_with fail
  go_loopw [8] (fun i wr => ∃ k : Nat, k ≤ n ∧ k ≤ 200 ∧ i = .int .i64 k ∧ Bo w wr p b q c (sAt l k) (sAt l k)) (fun i _ => 200 - (intOf i).toNat)
  case atStart => exact ⟨0, Nat.zero_le _, Nat.zero_le _, rfl, HB.out⟩
  case round =>
    obtain ⟨k, hkn, hk2, rfl, hB⟩ := hrel
    have UB := hid hB
    clear hB
    by_cases h1 : k < n
    · by_cases h2 : k < 200
      · obtain ⟨e1, e2⟩ := HC.out k h1
        have hT : Hid (sAt l (k + 1) = storeT (sAt l k) (l.getD k (0, 0)).1 (l.getD k (0, 0)).2) := hid rfl
        have CN := hid (sAt_cnt l k)
        have hbk : Hid (k ≤ bnd) := hid (by unfold bnd; omega)
        generalize (l.getD k (0, 0)).1 = x at *
        generalize (l.getD k (0, 0)).2 = y at *
        have c1 := (UB.out.bel.cell (p := ⟨ab, off + k * 2, none⟩) HA.out).trans e1
        have c2 := (UB.out.bel.cell (p := ⟨ab, off + k * 2 + 1, none⟩) HA.out).trans e2
        have hwk : IntKind.i64.wrap ((k : Int) + 1) = (k : Int) + 1 := i64w (by omega) (by omega)
        clear e1 e2
        have hS0 : wr.drew.cell? ⟨ab, off + k * 2, none⟩ = some (.int .i64 x) ∧ wr.drew.cell? ⟨ab, off + k * 2 + 1, none⟩ = some (.int .u64 y) := ⟨c1, c2⟩
        have HL := hid (lay_one (UB.out.below (Below.refl _ _).drew) CN.out hbk.out HA.out hS0.1 hS0.2)
        go_wp2_with fail
        go_region_held3 (fun w' => w'.cell? ⟨ab, off + k * 2, none⟩ = some (.int .i64 x) ∧ w'.cell? ⟨ab, off + k * 2 + 1, none⟩ = some (.int .u64 y)) (first | with_reducible exact hS0 | with_reducible assumption)
          (first
            | (go_at_call 19; refine HL.out.mono ?_; rintro e v' ⟨rfl, hM, hS⟩))
        rename_i hHeld
        clear hHeld hS0 HL c1 c2
        obtain ⟨c1, c2⟩ := hS
        have hS0 : v'.drew.cell? ⟨ab, off + k * 2, none⟩ = some (.int .i64 x) ∧ v'.drew.cell? ⟨ab, off + k * 2 + 1, none⟩ = some (.int .u64 y) := ⟨c1, c2⟩
        have HL := hid (lay_two (hM.out.below (Below.refl _ _).drew) CN.out hbk.out HA.out hS0.1 hS0.2)
        clear UB
        go_wp2_with fail
        go_region_held3 (fun w' => w'.cell? ⟨ab, off + k * 2, none⟩ = some (.int .i64 x) ∧ w'.cell? ⟨ab, off + k * 2 + 1, none⟩ = some (.int .u64 y)) (first | with_reducible exact hS0 | with_reducible assumption)
          (first
            | (go_at_call 24; refine HL.out.mono ?_; rintro e v2 ⟨rfl, hM2, hS⟩))
        rename_i hHeld
        clear hHeld hS0 HL c1 c2 hS hM
        rw [← hT.out] at hM2
        go_wp2_with fail
        go_roundw
        case rel => exact ⟨k + 1, by omega, by omega, by go_num, hM2.out⟩
        case measure => simp [intOf]; omega
      · have hk : ¬ (k : Int) < 200 := by omega
        have he : Hid (min l.length 200 = k) := hid (by rw [HN.out]; omega)
        have HF : Hid (Bo w wr p b q c (bothS l) (bothS l)) := hid (by unfold bothS; rw [he.out]; exact UB.out)
        go_wp2
        go_ret2
        first | exact ⟨_, _, _, _, rfl, HF.out⟩ | exact ⟨_, _, _, rfl, _, HF.out⟩
    · have he : Hid (min l.length 200 = k) := hid (by rw [HN.out]; omega)
      have HF : Hid (Bo w wr p b q c (bothS l) (bothS l)) := hid (by unfold bothS; rw [he.out]; exact UB.out)
      go_wp2
      go_ret2
      first | exact ⟨_, _, _, _, rfl, HF.out⟩ | exact ⟨_, _, _, rfl, _, HF.out⟩
theorem both_at {w : World} {v : Value} {l : List (Int × Int)} (h : Wl w v l) : Calls Try.prog 8 #[v] w fun e w' => ∃ p b q c, e = .returned (.tuple #[.pointer (some ⟨p, 0, none⟩), .pointer (some ⟨q, 0, none⟩)]) ∧ Bo w w' p b q c (bothS l) (bothS l) := by
  obtain ⟨hlen, aq, ac, rfl, hc⟩ := h
  by_cases hl : l = []
  · subst hl
    exact both_nil w aq ac
  · obtain ⟨ab, off, rfl, ha, hcl⟩ := hc hl
    exact both_some ab off ac l.length rfl hlen ha hcl
end Go.Proofs.Ytfpekfpjoldinaa
