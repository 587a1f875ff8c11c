/- What the document's entry returns: the entry of a page in a table. Condition: its word is there. What the document's lay leaves, and what its way and last return: a page's tables, where they end. Conditions: the words and frames lie in memory; the way's places are there; few calls have been counted. What the document's last, Query, empty and Root return. Conditions: the words and frames lie in memory; what is read is there. What the document's under, All and Drop return and leave: all tables, rising. Conditions: the words and frames lie in memory; all that is read is there. -/
import Derived.Test.YtpfmmlbakbhklaaGreatDoorBR
import Derived.Test.YtpfmmlbakbhklaaGreatDoorCG
import Derived.Test.YtpfmmlbakbhklaaGreatDoorBO
import Derived.Deep.CutRange
import Derived.Deep.CutBlock
import Derived.Deep.RegionHeld3
import Derived.Deep.RegionLaw
import Derived.Laws.OwnMore
namespace Go.Proofs.YtpfmmlbakbhklaaGreatDoor
open Go.RowKit
theorem size102 : (Tryz.prog.info? 102).map (·.size) = some 4 := by kernel_rfl
theorem cell_alV {W : World} {p : Addr} {v : Value} (h : W.cell? p = some v) (o : Obj) : (W.alloc o).cell? p = some v := ((below_alloc W o).cell (World.block_lt_of_cell? W p h)).trans h
theorem st4_neV {V : World} {p : Addr} {v : Value} {z : Nat} (hlt : p.block < z) (k : V.cell? p = some v) (a b c e : Value) : ((((V.setCell ⟨z, 0, none⟩ a).setCell ⟨z, 1, none⟩ b).setCell ⟨z, 2, none⟩ c).setCell ⟨z, 3, none⟩ e).cell? p = some v :=
  (World.cell?_of_block (((((Px.refl z V).set 0 a).set 1 b).set 2 c).set 3 e |>.block p.block (by omega))).trans k
theorem put4 {w : World} {g : Nat} {a b c d : Value} {t : TypeId} (h : w.heap[g]? = some (.cells #[a, b, c, d] t (0, 0))) (a' b' c' d' : Value) :
    ((((w.setCell ⟨g, 0, none⟩ a').setCell ⟨g, 1, none⟩ b').setCell ⟨g, 2, none⟩ c').setCell ⟨g, 3, none⟩ d').heap[g]? = some (.cells #[a', b', c', d'] t (0, 0)) :=
  P.heap_setCell_self (P.heap_setCell_self (P.heap_setCell_self (P.heap_setCell_self h _) _) _) _
theorem below_put4 {B : Nat} {w w' : World} (h : Below B w w') {g : Nat} (hg : B ≤ g) (a b c d : Value) :
    Below B w ((((w'.setCell ⟨g, 0, none⟩ a).setCell ⟨g, 1, none⟩ b).setCell ⟨g, 2, none⟩ c).setCell ⟨g, 3, none⟩ d) :=
  (((h.setCell (p := ⟨g, 0, none⟩) hg _).setCell (p := ⟨g, 1, none⟩) hg _).setCell (p := ⟨g, 2, none⟩) hg _).setCell (p := ⟨g, 3, none⟩) hg _
theorem cells4V {w : World} {g : Nat} {a b c d : Value} {t : TypeId} (h : w.heap[g]? = some (.cells #[a, b, c, d] t (0, 0))) : w.cell? ⟨g, 0, none⟩ = some a ∧ w.cell? ⟨g, 1, none⟩ = some b ∧ w.cell? ⟨g, 2, none⟩ = some c ∧ w.cell? ⟨g, 3, none⟩ = some d :=
  ⟨P.cell_of h rfl, P.cell_of h rfl, P.cell_of h rfl, P.cell_of h rfl⟩
theorem free4V {w : World} {g : Nat} {c : Array Value} {t : TypeId} (h : w.heap[g]? = some (.cells c t (0, 0))) : w.frozen? ⟨g, 0, none⟩ = false ∧ w.frozen? ⟨g, 1, none⟩ = false ∧ w.frozen? ⟨g, 2, none⟩ = false ∧ w.frozen? ⟨g, 3, none⟩ = false :=
  ⟨P.free_of h, P.free_of h, P.free_of h, P.free_of h⟩
abbrev z4 : Obj := .cells #[.bool false, .int .i64 0, .bool false, .int .i64 0] 102
section
variable {u : Si} {w w' : World} {t : Nat} {o root : Int} {dr : Bool} {s : Sm} {k : Nat}
/-- A word of the document's memory. -/
theorem Wg.word (h : Wr u w s k) (a : Int) (h0 : 0 ≤ a) (h1 : a < s.xs.length) : ∃ i x : Nat, a = i ∧ i < s.xs.length ∧ x < 18446744073709551616 ∧ (x : Int) = wordAt s.xs a ∧ w.cell? ⟨u.wb, i, none⟩ = some (.int .u64 x) := by
  obtain ⟨i, rfl⟩ := Int.eq_ofNat_of_zero_le h0
  obtain ⟨d, l, hm, -⟩ := h.mem
  obtain ⟨x, hx⟩ := Int.eq_ofNat_of_zero_le (h.u64 i).1
  have hw : wordAt s.xs i = s.xs.getD i 0 := by
    unfold wordAt
    rw [if_pos (inB_yes.2 ⟨h0, h1⟩)]
    rfl
  have := (h.u64 i).2
  exact ⟨i, x, rfl, by omega, by omega, by rw [hw, hx], by rw [hm.row.cell i (by omega), hx]⟩
set_option maxRecDepth 100000 in
set_option maxHeartbeats 400000 in
theorem entry_at (hT : IsU u w t o root dr) (h : Wr u w s k) (f pg lv : Int) (h0 : 0 ≤ P.at' f pg lv) (h1 : P.at' f pg lv < s.xs.length) :
    Calls Tryz.prog 86 #[.pointer (some ⟨t, 0, none⟩), .int .i64 f, .int .i64 pg, .int .i64 lv] w fun r w' => r = .returned (P.eV (P.prD (wordAt s.xs (P.at' f pg lv)).toNat)) ∧ Below w.heap.size w w' := by
  have hb := below_alloc w z4
  obtain ⟨a, x, ea, hal, hx, ex, cw⟩ := (h.below hb).word _ h0 h1
  have eR : (wordAt s.xs (P.at' f pg lv)).toNat = x := by rw [← ex]; rfl
  rw [eR]
  obtain ⟨d, l, hm, -⟩ := (h.below hb).mem
  have c1 := hm.cells.1
  have c0 := (hT.below hb).cells.1
  have HA := hid (fun W => P.rplace_at f pg lv W)
  rw [ea] at HA
  have HP := hid (fun W => P.rparse_at x hx W)
  have lt0 := World.block_lt_of_cell? _ _ c0
  have lt1 := World.block_lt_of_cell? _ _ c1
  have lt2 := World.block_lt_of_cell? _ _ cw
  simp only at lt0 lt1 lt2
  have HR := hid (heap_alloc_new w z4)
  obtain ⟨n, hn⟩ : ∃ n : Nat, s.xs.length = n := ⟨_, rfl⟩
  rw [hn] at c1 hal
  obtain ⟨e, he⟩ : ∃ e, P.prD x = e := ⟨_, rfl⟩
  rw [he] at HP ⊢
  obtain ⟨ep, er, el, ef⟩ := e
  unfold P.ptwo P.eV at HP
  unfold P.eV
  simp only at HP ⊢
  have HB := hid hb
  clear h0 h1 ea ex eR he hm h hT hn hb
  go_enter Tryz.func86, Tryz.ntmps86
  go_wp2_with fail
  have HLT : Hid (t < (w.alloc (.cells #[.bool false, .int .i64 0, .bool false, .int .i64 0] 102)).heap.size ∧ u.mp < (w.alloc (.cells #[.bool false, .int .i64 0, .bool false, .int .i64 0] 102)).heap.size ∧ u.wb < (w.alloc (.cells #[.bool false, .int .i64 0, .bool false, .int .i64 0] 102)).heap.size ∧ w.heap.size < (w.alloc (.cells #[.bool false, .int .i64 0, .bool false, .int .i64 0] 102)).heap.size) := ⟨lt0, lt1, lt2, by simp⟩
  clear lt0 lt1 lt2
  generalize w.alloc (.cells #[.bool false, .int .i64 0, .bool false, .int .i64 0] 102) = w0 at *
  have HS : Hid (∀ W, Below w0.heap.size w0 W → (W.cell? ⟨t, 0, none⟩ = some (.pointer (some ⟨u.mp, 0, none⟩)) ∧ W.cell? ⟨u.mp, 0, none⟩ = some (.slice (some ⟨u.wb, 0, none⟩) n n) ∧ W.cell? ⟨u.wb, a, none⟩ = some (.int .u64 x))) := fun W b => ⟨(b.cell (p := ⟨t, 0, none⟩) HLT.out.1).trans c0, (b.cell (p := ⟨u.mp, 0, none⟩) HLT.out.2.1).trans c1, (b.cell (p := ⟨u.wb, a, none⟩) HLT.out.2.2.1).trans cw⟩
  have HBW : Hid (∀ W, Below w0.heap.size w0 W → Below w0.heap.size w0 (W.alloc (.cells #[.bool false, .int .i64 0, .bool false, .int .i64 0] 102)) ∧ (W.alloc (.cells #[.bool false, .int .i64 0, .bool false, .int .i64 0] 102)).heap[W.heap.size]? = some (.cells #[.bool false, .int .i64 0, .bool false, .int .i64 0] 102) ∧ w0.heap.size ≤ W.heap.size) := fun W b => ⟨b.alloc b.size _, heap_alloc_new _ _, b.size⟩
  have H80 : Hid (∀ W, Hid (Below w0.heap.size w0 W) → Calls Tryz.prog 80 #[.int .i64 f, .int .i64 pg, .int .i64 lv] W fun e w' => e = .returned (.int .i64 a) ∧ (w'.cell? ⟨t, 0, none⟩ = some (.pointer (some ⟨u.mp, 0, none⟩)) ∧ w'.cell? ⟨u.mp, 0, none⟩ = some (.slice (some ⟨u.wb, 0, none⟩) n n) ∧ w'.cell? ⟨u.wb, a, none⟩ = some (.int .u64 x)) ∧ Hid (Below w0.heap.size w0 w')) := fun W b => by
    refine (HA.out W).mono ?_
    rintro e w' ⟨rfl, hB⟩
    have := b.out.trans (hB.mono b.out.size)
    exact ⟨rfl, HS.out _ this, this⟩
  have H80t : Hid (∀ W z, Hid (Below w0.heap.size w0 W ∧ W.heap[z]? = some (.cells #[.bool false, .int .i64 0, .bool false, .int .i64 0] 102) ∧ w0.heap.size ≤ z) → Calls Tryz.prog 80 #[.int .i64 f, .int .i64 pg, .int .i64 lv] W fun e w' => e = .returned (.int .i64 a) ∧ (w'.cell? ⟨t, 0, none⟩ = some (.pointer (some ⟨u.mp, 0, none⟩)) ∧ w'.cell? ⟨u.mp, 0, none⟩ = some (.slice (some ⟨u.wb, 0, none⟩) n n) ∧ w'.cell? ⟨u.wb, a, none⟩ = some (.int .u64 x)) ∧ Hid (Below w0.heap.size w0 w' ∧ w'.heap[z]? = some (.cells #[.bool false, .int .i64 0, .bool false, .int .i64 0] 102) ∧ w0.heap.size ≤ z)) := fun W z b => by
    refine (HA.out W).mono ?_
    rintro e w' ⟨rfl, hB⟩
    have := b.out.1.trans (hB.mono b.out.1.size)
    exact ⟨rfl, HS.out _ this, this, P.stay hB b.out.2.1, b.out.2.2⟩
  have H93p : Hid (∀ W, Hid (Below w0.heap.size w0 W) → Calls Tryz.prog 93 #[.int .u64 x] W fun e w' => (∃ y, e = .returned (.tuple #[.agg #[.bool ep, .int .i64 er, .bool el, .int .i64 ef], .bool y])) ∧ (w'.cell? ⟨t, 0, none⟩ = some (.pointer (some ⟨u.mp, 0, none⟩)) ∧ w'.cell? ⟨u.mp, 0, none⟩ = some (.slice (some ⟨u.wb, 0, none⟩) n n) ∧ w'.cell? ⟨u.wb, a, none⟩ = some (.int .u64 x)) ∧ Hid (Below w0.heap.size w0 w')) := fun W b => by
    refine (HP.out W).mono ?_
    rintro e w' ⟨rfl, hB⟩
    have := b.out.trans (hB.mono b.out.size)
    exact ⟨⟨_, rfl⟩, HS.out _ this, this⟩
  have H93t : Hid (∀ W z, Hid (Below w0.heap.size w0 W ∧ W.heap[z]? = some (.cells #[.bool false, .int .i64 0, .bool false, .int .i64 0] 102) ∧ w0.heap.size ≤ z) → Calls Tryz.prog 93 #[.int .u64 x] W fun e w' => (∃ y, e = .returned (.tuple #[.agg #[.bool ep, .int .i64 er, .bool el, .int .i64 ef], .bool y])) ∧ (w'.cell? ⟨t, 0, none⟩ = some (.pointer (some ⟨u.mp, 0, none⟩)) ∧ w'.cell? ⟨u.mp, 0, none⟩ = some (.slice (some ⟨u.wb, 0, none⟩) n n) ∧ w'.cell? ⟨u.wb, a, none⟩ = some (.int .u64 x)) ∧ (w'.frozen? ⟨z, 0, none⟩ = false ∧ w'.frozen? ⟨z, 1, none⟩ = false ∧ w'.frozen? ⟨z, 2, none⟩ = false ∧ w'.frozen? ⟨z, 3, none⟩ = false ∧ w'.cell? ⟨z, 0, none⟩ = some (.bool false) ∧ w'.cell? ⟨z, 1, none⟩ = some (.int .i64 0) ∧ w'.cell? ⟨z, 2, none⟩ = some (.bool false) ∧ w'.cell? ⟨z, 3, none⟩ = some (.int .i64 0)) ∧ Hid (Below w0.heap.size w0 w' ∧ w'.heap[z]? = some (.cells #[.bool false, .int .i64 0, .bool false, .int .i64 0] 102) ∧ w0.heap.size ≤ z)) := fun W z b => by
    refine (HP.out W).mono ?_
    rintro e w' ⟨rfl, hB⟩
    have h1 := b.out.1.trans (hB.mono b.out.1.size)
    have hz := P.stay hB b.out.2.1
    exact ⟨⟨_, rfl⟩, HS.out _ h1, ⟨P.free_of hz, P.free_of hz, P.free_of hz, P.free_of hz, P.cell_of (i := 0) hz rfl, P.cell_of (i := 1) hz rfl, P.cell_of (i := 2) hz rfl, P.cell_of (i := 3) hz rfl⟩, h1, hz, b.out.2.2⟩
  have H93 : Hid (∀ W, Hid (Below w0.heap.size w0 W) → Calls Tryz.prog 93 #[.int .u64 x] (W.alloc (.cells #[.bool false, .int .i64 0, .bool false, .int .i64 0] 102)) fun e w' => (∃ y, e = .returned (.tuple #[.agg #[.bool ep, .int .i64 er, .bool el, .int .i64 ef], .bool y])) ∧ (w'.cell? ⟨t, 0, none⟩ = some (.pointer (some ⟨u.mp, 0, none⟩)) ∧ w'.cell? ⟨u.mp, 0, none⟩ = some (.slice (some ⟨u.wb, 0, none⟩) n n) ∧ w'.cell? ⟨u.wb, a, none⟩ = some (.int .u64 x)) ∧ (w'.frozen? ⟨W.heap.size, 0, none⟩ = false ∧ w'.frozen? ⟨W.heap.size, 1, none⟩ = false ∧ w'.frozen? ⟨W.heap.size, 2, none⟩ = false ∧ w'.frozen? ⟨W.heap.size, 3, none⟩ = false ∧ w'.cell? ⟨W.heap.size, 0, none⟩ = some (.bool false) ∧ w'.cell? ⟨W.heap.size, 1, none⟩ = some (.int .i64 0) ∧ w'.cell? ⟨W.heap.size, 2, none⟩ = some (.bool false) ∧ w'.cell? ⟨W.heap.size, 3, none⟩ = some (.int .i64 0)) ∧ Hid (Below w0.heap.size w0 w' ∧ w'.heap[W.heap.size]? = some (.cells #[.bool false, .int .i64 0, .bool false, .int .i64 0] 102) ∧ w0.heap.size ≤ W.heap.size)) := fun W b => H93t.out _ _ (HBW.out W b.out)
  have HST : Hid (∀ (V : World) (z : Nat) (a1 b c e : Value), w0.heap.size ≤ z → (V.cell? ⟨t, 0, none⟩ = some (.pointer (some ⟨u.mp, 0, none⟩)) ∧ V.cell? ⟨u.mp, 0, none⟩ = some (.slice (some ⟨u.wb, 0, none⟩) n n) ∧ V.cell? ⟨u.wb, a, none⟩ = some (.int .u64 x)) → (((((V.setCell ⟨z, 0, none⟩ a1).setCell ⟨z, 1, none⟩ b).setCell ⟨z, 2, none⟩ c).setCell ⟨z, 3, none⟩ e).cell? ⟨t, 0, none⟩ = some (.pointer (some ⟨u.mp, 0, none⟩)) ∧ ((((V.setCell ⟨z, 0, none⟩ a1).setCell ⟨z, 1, none⟩ b).setCell ⟨z, 2, none⟩ c).setCell ⟨z, 3, none⟩ e).cell? ⟨u.mp, 0, none⟩ = some (.slice (some ⟨u.wb, 0, none⟩) n n) ∧ ((((V.setCell ⟨z, 0, none⟩ a1).setCell ⟨z, 1, none⟩ b).setCell ⟨z, 2, none⟩ c).setCell ⟨z, 3, none⟩ e).cell? ⟨u.wb, a, none⟩ = some (.int .u64 x))) := fun V z a1 b c e hz k => ⟨st4_neV (by have := HLT.out; simp only; omega) k.1 _ _ _ _, st4_neV (by have := HLT.out; simp only; omega) k.2.1 _ _ _ _, st4_neV (by have := HLT.out; simp only; omega) k.2.2 _ _ _ _⟩
  have HT : Hid (Below w0.heap.size w0 w0.drew) := (Below.refl _ _).drew
  have HT2 : Hid (Below w0.heap.size w0 (w0.alloc (.cells #[.bool false, .int .i64 0, .bool false, .int .i64 0] 102)).drew ∧ (World.heap ((w0.alloc (.cells #[.bool false, .int .i64 0, .bool false, .int .i64 0] 102)).drew))[w0.heap.size]? = some (.cells #[.bool false, .int .i64 0, .bool false, .int .i64 0] 102) ∧ w0.heap.size ≤ w0.heap.size) := ⟨(below_alloc _ _).drew, heap_alloc_new _ _, Nat.le_refl _⟩
  have hS0 := HS.out _ HT.out
  have hSa := HS.out _ HT2.out.1
  have hSw := HS.out _ (Below.refl _ _)
  go_region_held3 (fun w' => w'.cell? ⟨t, 0, none⟩ = some (.pointer (some ⟨u.mp, 0, none⟩)) ∧ w'.cell? ⟨u.mp, 0, none⟩ = some (.slice (some ⟨u.wb, 0, none⟩) n n) ∧ w'.cell? ⟨u.wb, a, none⟩ = some (.int .u64 x)) (first | with_reducible exact hS0 | with_reducible assumption | with_reducible exact ⟨cell_alV (And.left (by assumption)) _, cell_alV (And.left (And.right (by assumption))) _, cell_alV (And.right (And.right (by assumption))) _⟩ | with_reducible exact HST.out _ _ _ _ _ _ H6.out.2.2 hS6 | with_reducible exact hSa)
    (first
      | (go_at_call 80; refine (H80.out _ (by assumption)).mono ?_; rintro e5 w5 ⟨rfl, hS5, HT5⟩)
      | (go_at_call 80; refine (H80t.out _ _ (by assumption)).mono ?_; rintro e5 w5 ⟨rfl, hS5, HT5⟩)
      | (go_at_call 93; refine (H93t.out _ _ (by assumption)).mono ?_; rintro e6 w6 ⟨⟨y, rfl⟩, hS6, ⟨fz0, fz1, fz2, fz3, cz0, cz1, cz2, cz3⟩, H6⟩)
      | (go_at_call 93; refine (H93p.out _ (by assumption)).mono ?_; rintro e6 w6 ⟨⟨y, rfl⟩, hS6, H6p⟩)
      | (go_at_call 93; refine (H93.out _ (by assumption)).mono ?_; rintro e6 w6 ⟨⟨y, rfl⟩, hS6, ⟨fz0, fz1, fz2, fz3, cz0, cz1, cz2, cz3⟩, H6⟩))
  all_goals first
    | (have hz := heap_alloc_new w6 (.cells #[.bool ep, .int .i64 er, .bool el, .int .i64 ef] 102)
       have hBW := H6p.out.alloc H6p.out.size (.cells #[.bool ep, .int .i64 er, .bool el, .int .i64 ef] 102)
       generalize w6.alloc (.cells #[.bool ep, .int .i64 er, .bool el, .int .i64 ef] 102) = WW at *
       generalize w6.heap.size = z at *
       clear H6p)
    | (have hz := put4 (show w6.heap[w5.heap.size]? = some z4 from H6.out.2.1) (.bool ep) (.int .i64 er) (.bool el) (.int .i64 ef)
       have hBW := below_put4 H6.out.1 H6.out.2.2 (.bool ep) (.int .i64 er) (.bool el) (.int .i64 ef)
       generalize w5.heap.size = z at *
       generalize (((w6.setCell ⟨z, 0, none⟩ (.bool ep)).setCell ⟨z, 1, none⟩ (.int .i64 er)).setCell ⟨z, 2, none⟩ (.bool el)).setCell ⟨z, 3, none⟩ (.int .i64 ef) = WW at *
       clear H6 cz0 cz1 cz2 cz3 fz0 fz1 fz2 fz3)
    | (have hz := put4 H6.out.2.1 (.bool ep) (.int .i64 er) (.bool el) (.int .i64 ef)
       have hBW := below_put4 H6.out.1 H6.out.2.2 (.bool ep) (.int .i64 er) (.bool el) (.int .i64 ef)
       generalize (((w6.setCell ⟨w0.heap.size, 0, none⟩ (.bool ep)).setCell ⟨w0.heap.size, 1, none⟩ (.int .i64 er)).setCell ⟨w0.heap.size, 2, none⟩ (.bool el)).setCell ⟨w0.heap.size, 3, none⟩ (.int .i64 ef) = WW at *
       generalize w0.heap.size = z at *
       clear H6 cz0 cz1 cz2 cz3 fz0 fz1 fz2 fz3)
  all_goals
    have hr := (hBW.block _ HLT.out.2.2.2).trans HR.out
    obtain ⟨cz0, cz1, cz2, cz3⟩ := cells4V hz
    obtain ⟨k0, k1, k2, k3⟩ := cells4V hr
    obtain ⟨f0, f1, f2, f3⟩ := free4V hr
    have HRR := hid hr
    have HBW2 := hid (HB.out.trans (hBW.mono (Nat.le_of_lt HLT.out.2.2.2)))
    clear hr hz hBW hS6 hS5 hS0 hSa hSw c0 c1 cw
    go_wp2
    refine bodyPost_ret (results_cell_row rfl _ _ w.heap.size 102 _ (0, 0) _ rfl (put4 HRR.out _ _ _ _) Tryz.underlying102 rfl size102) rfl ?_
    exact ⟨rfl, below_put4 HBW2.out (Nat.le_refl _) _ _ _ _⟩
end
end Go.Proofs.YtpfmmlbakbhklaaGreatDoor
namespace Go.Proofs.YtpfmmlbakbhklaaGreatDoor
open Go.RowKit
/-- The frames of a page's way. -/
def wfr (xs : List Int) (pg root : Int) : List Int := (wayF xs pg 0 3 root).map (·.1)
theorem wfr_len (xs : List Int) (pg root : Int) : (wfr xs pg root).length + (endF xs pg 0 3 root).2 = 4 := by
  unfold wfr
  rw [List.length_map]
  exact way_len xs pg 3 root
theorem wfr_last (xs : List Int) (pg root : Int) : ∃ l, wfr xs pg root = l ++ [(endF xs pg 0 3 root).1] := by
  obtain ⟨l, hl⟩ := way_end xs pg 0 3 root
  exact ⟨l.map (·.1), by unfold wfr; rw [hl, List.map_append]; rfl⟩
section
variable {u : Si} {w w' : World} {t : Nat} {o root : Int} {dr : Bool} {s : Sm} {k : Nat}
set_option maxHeartbeats 1000000 in
theorem rlay_at (hT : IsU u w t o root dr) (h : Wr u w s k) (hk : k ≤ bnd) (a : Int) (e : P.En) :
    Calls Tryz.prog 83 #[.pointer (some ⟨t, 0, none⟩), .int .i64 a, P.eV e] w fun r w' => r = .returned (.tuple #[]) ∧ Wr u w' (lay s a e) (k + 1) ∧ Ch u w w' := by
  have HP := hid (fun W => P.rpack_at e W)
  have HL := hid (pk_lt e)
  have HW := hid h
  have HT := hid hT
  have HK := hid hk
  obtain ⟨ep, er, el, ef⟩ := e
  unfold lay
  have HB := hid (below_alloc w (.cells #[.bool ep, .int .i64 er, .bool el, .int .i64 ef] 102))
  generalize hpk : P.pk ⟨ep, er, el, ef⟩ = pv at *
  generalize P.pkE ⟨ep, er, el, ef⟩ = pe at *
  clear h hT hk hpk
  unfold P.eV at HP
  simp only at HP
  show Calls Tryz.prog 83 #[.pointer (some ⟨t, 0, none⟩), .int .i64 a, .agg #[.bool ep, .int .i64 er, .bool el, .int .i64 ef]] w _
  go_enter Tryz.func83, Tryz.ntmps83
  go_wp2_with fail
  refine (HP.out _).mono ?_
  rintro r w1 ⟨rfl, hB⟩
  have HB1 := hid (P.bgo HB.out hB)
  obtain ⟨c1, -⟩ := (HT.out.below HB1.out).cells
  clear hB HB
  unfold P.wtwo
  go_wp2_with fail
  refine ((HW.out.below HB1.out).rstore_at HK.out _ _ HL.out).mono ?_
  rintro r w2 ⟨⟨x, rfl⟩, hW2, hC2⟩
  have HW2 := hid hW2
  have HC2 := hid hC2
  clear hW2 hC2 c1
  go_wp2
  go_end0
  exact ⟨rfl, HW2.out, (Ch.of_below HB1.out).trans HC2.out⟩
set_option maxRecDepth 100000 in
set_option maxHeartbeats 2000000 in
theorem rway_at (hT : IsU u w t o root dr) (h : Wr u w s k) (pg : Int) (hok : WayOk s.xs root pg) :
    Calls Tryz.prog 78 #[.pointer (some ⟨t, 0, none⟩), .int .i64 pg] w fun r w' => ∃ v, r = .returned v ∧ w'.ownsRow w.heap.size 3 1 v (wfr s.xs pg root).length ((wfr s.xs pg root).map (Value.int .i64)) ∧ Below w.heap.size w w' := by
  obtain ⟨i0, hi3, hz0, hz1, hz2⟩ := info_parts info3'
  have HINF := hid (And.intro hi3 (And.intro hz0 (And.intro hz1 hz2)))
  have HT := hid hT
  have HW := hid h
  have HOK := hid hok
  have c3 := hT.cells.2.2.2.1
  have HR0 := hid (World.ownsRow_lit (base := w.heap.size) (e := 3) (size := 1) w #[.int .i64 root] 1 (Nat.le_refl _) (by decide) rfl)
  have HB0 := hid (below_alloc w (.cells #[.int .i64 root] 3))
  clear hT h hok hi3 hz0 hz1 hz2
  go_enter Tryz.func78, Tryz.ntmps78
  go_wp2
  go_loopw [5, 6] (fun v p wr => ∃ (j : Nat) (fr : Int) (pre : List Int), p = .int .i64 j ∧ j ≤ 3 ∧ wr.ownsRow w.heap.size 3 1 v (pre.length + 1) ((pre ++ [fr]).map (Value.int .i64)) ∧ wfr s.xs pg root = pre ++ (wayF s.xs pg 0 j fr).map (·.1) ∧ (∀ z, z ∈ wayF s.xs pg 0 j fr → 0 ≤ P.at' z.1 pg z.2 ∧ P.at' z.1 pg z.2 < s.xs.length) ∧ pre.length + j = 3 ∧ Below w.heap.size w wr) (fun _ p _ => (intOf p).toNat)
  case atStart => exact ⟨3, root, [], rfl, Nat.le_refl _, HR0.out, rfl, HOK.out, rfl, HB0.out⟩
  case round =>
    obtain ⟨j, fr, pre, rfl, hj, hrow, hW0, hz, hl, hBr⟩ := hrel
    have HROW := hid hrow
    have HBR := hid hBr
    have HW0 := hid hW0
    have HZ := hid hz
    have HL := hid hl
    clear hW0 hz hBr
    obtain ⟨g, cap, rfl⟩ := ownsRow_succ hrow
    cases j with
    | zero =>
      clear hrow
      go_wp2
      go_ret
      refine ⟨_, rfl, ?_, HBR.out⟩
      have : wfr s.xs pg root = pre ++ [fr] := HW0.out
      rw [this, List.length_append]
      exact HROW.out
    | succ v =>
      have hc := hrow.cellAt pre.length (by omega)
      have hgg : wr.cell? ⟨g, pre.length, none⟩ = some (.int .i64 fr) := by
        rw [hc]
        simp
      have hin := HZ.out (fr, v + 1) (by unfold wayF; exact List.mem_cons_self ..)
      simp only at hin
      have HE := hid (entry_at (HT.out.below HBR.out) (HW.out.below HBR.out) fr pg ((v + 1 : Nat) : Int) hin.1 hin.2)
      have HEN := hid (show en s.xs pg fr (v + 1) = P.prD (wordAt s.xs (P.at' fr pg ((v + 1 : Nat) : Int))).toNat from rfl)
      obtain ⟨e, he⟩ : ∃ e, P.prD (wordAt s.xs (P.at' fr pg ((v + 1 : Nat) : Int))).toNat = e := ⟨_, rfl⟩
      rw [he] at HE HEN
      obtain ⟨ep, er, el, ef⟩ := e
      have HTB := hid (fun W => P.rtable_at ⟨ep, er, el, ef⟩ W)
      unfold P.eV at HE HTB
      simp only at HE HTB
      clear hc hrow hin he
      generalize hm : pre.length = m at *
      have HM := hid hm
      clear hm
      have e1 : wrap64 ((m : Int) + 1 - 1) = (m : Int) := by have := HL.out; unfold wrap64; omega
      have e2 : wrap64 (((v : Int) + 1) - 1) = (v : Int) := by unfold wrap64; omega
      have ev : ((v + 1 : Nat) : Int) = (v : Int) + 1 := by omega
      rw [ev] at HE ⊢
      have hv0 : (0 : Int) < (v : Int) + 1 := by omega
      obtain ⟨b, hb⟩ : ∃ b, P.tb ⟨ep, er, el, ef⟩ = b := ⟨_, rfl⟩
      rw [hb] at HTB
      have HWV := hid (show wayF s.xs pg 0 (v + 1) fr = (fr, v + 1) :: (if b = true then wayF s.xs pg 0 v ef else []) by
        show (fr, v + 1) :: (if (decide (0 < v + 1) && P.tb (en s.xs pg fr (v + 1))) = true then wayF s.xs pg 0 v (en s.xs pg fr (v + 1)).f else []) = _
        rw [HEN.out, hb]
        simp)
      clear hb HEN
      go_wp2_with fail
      refine HE.out.mono ?_
      rintro r w1 ⟨rfl, hB1⟩
      have HRW1 := hid (own_bel HROW.out hB1)
      have HB1 := hid (HBR.out.trans (hB1.mono HBR.out.size))
      have HNB := hid (heap_alloc_new w1 (.cells #[.bool ep, .int .i64 er, .bool el, .int .i64 ef] 102))
      have HBA := hid (below_alloc w1 (.cells #[.bool ep, .int .i64 er, .bool el, .int .i64 ef] 102))
      clear hB1 hgg HE
      go_wp2_with fail
      refine (HTB.out _).mono ?_
      rintro r w2 ⟨rfl, hB2⟩
      have HB2 := hid (P.bgo HBA.out hB2)
      have HN2 := hid (P.stay hB2 HNB.out)
      have HRW2 := hid (own_bel HRW1.out HB2.out)
      have HBW := hid (HB1.out.trans (HB2.out.mono HB1.out.size))
      clear hB2 HRW1 HNB HBA
      cases b
      · go_wp2
        go_ret
        refine ⟨_, rfl, ?_, HBW.out⟩
        have : wfr s.xs pg root = pre ++ [fr] := by
          rw [HW0.out, HWV.out]
          rfl
        rw [this, List.length_append, HM.out]
        exact HRW2.out
      · obtain ⟨hi3, hz0, hz1, hz2⟩ := HINF.out
        have HCO := hid (cell_one w2 (.int .i64 ef) 3)
        have hcf := (cells4V HN2.out).2.2.2
        have hsz := HBW.out.size
        go_wp2_with (first | (at_builtin; refine wpList_append_own _ rfl _ _ 44 rfl w.heap.size 3 i0 (.int .i64 0) 1 8 Tryz.underlying44 hi3 hz0 hz1 hz2 rfl (by decide) _ _ _ rfl (HRW2.out.alloc _) ⟨w2.heap.size, 0, none⟩ 1 1 [.int .i64 ef] rfl rfl HCO.out (by intro u hu; simp at hu; subst hu; rfl) (by unfold maxLen; omega) (by omega) (by simp; omega) ?_; intro v' w3 hown' hg3 hnil3; go_frame) | go_in)
        have hg3' : (w2.alloc (.cells #[.int .i64 ef] 3)).grownBy w3 (Value.slice (some ⟨g, 0, none⟩) (m + 1) cap).ownBlock := hg3
        refine ⟨⟨v, ef, pre ++ [fr], by go_num, by omega, ?_, ?_, fun z hz => HZ.out z (by rw [HWV.out]; exact List.mem_cons_of_mem _ hz), by rw [List.length_append, HM.out]; simp only [List.length_singleton]; first | omega | (have := HL.out; omega), ?_⟩, by simp [intOf]⟩
        · rw [List.length_append, HM.out, List.map_append]
          exact hown'
        · rw [HW0.out, HWV.out]
          simp
        · exact (HBW.out.alloc HBW.out.size _).grown hg3' (by simp; omega) (fun j hj => (HRW2.out.lt _ hj).1)
end
end Go.Proofs.YtpfmmlbakbhklaaGreatDoor
namespace Go.Proofs.YtpfmmlbakbhklaaGreatDoor
open Go.RowKit
section
variable {u : Si} {w w' : World} {t : Nat} {o root : Int} {dr : Bool} {s : Sm} {k : Nat}
set_option maxRecDepth 100000 in
set_option maxHeartbeats 2000000 in
theorem rlast_at (hT : IsU u w t o root dr) (h : Wr u w s k) (pg : Int) (hok : WayOk s.xs root pg) :
    Calls Tryz.prog 48 #[.pointer (some ⟨t, 0, none⟩), .int .i64 pg] w fun r w' => r = .returned (.tuple #[P.eV (fdE s root pg), .int .i64 ((fd s root pg).2 : Nat)]) ∧ Below w.heap.size w w' := by
  have hb0 := below_alloc w z4
  have HWY := hid (rway_at (hT.below hb0) (h.below hb0) pg hok)
  have HT := hid (hT.below hb0)
  have HW := hid (h.below hb0)
  have HB0 := hid hb0
  have HR := hid (heap_alloc_new w z4)
  have hin : 0 ≤ P.at' (fd s root pg).1 pg (fd s root pg).2 ∧ P.at' (fd s root pg).1 pg (fd s root pg).2 < s.xs.length := by
    obtain ⟨l, hl⟩ := way_end s.xs pg 0 3 root
    exact hok _ (by rw [hl]; exact List.mem_append_right _ (List.mem_singleton.2 rfl))
  have HIN := hid hin
  have HE := hid (fun (W : World) (a : IsU u W t o root dr) (b : Wr u W s k) => entry_at a b (fd s root pg).1 pg ((fd s root pg).2 : Nat) hin.1 hin.2)
  have hdef : fdE s root pg = P.prD (wordAt s.xs (P.at' (fd s root pg).1 pg ((fd s root pg).2 : Nat))).toNat := rfl
  rw [← hdef] at HE
  obtain ⟨l, hl⟩ := wfr_last s.xs pg root
  have hn := wfr_len s.xs pg root
  rw [hl] at HWY hn
  rw [List.length_append, List.length_singleton] at HWY hn
  rw [show endF s.xs pg 0 3 root = fd s root pg from rfl] at HWY hn
  generalize fdE s root pg = e at *
  obtain ⟨ep, er, el, ef⟩ := e
  generalize fd s root pg = q at *
  obtain ⟨fr, v⟩ := q
  simp only at *
  obtain ⟨m, hm⟩ : ∃ m, l.length = m := ⟨_, rfl⟩
  have HM := hid hm
  rw [hm] at HWY hn
  obtain rfl : v = 3 - m := by omega
  have hm3 : m ≤ 3 := by omega
  unfold P.eV at HE ⊢
  simp only at HE ⊢
  have ev : ((3 - m : Nat) : Int) = 4 - ((m : Int) + 1) := by omega
  rw [ev] at HE ⊢
  clear hT h hok hb0 hin hdef hl hm hn
  go_enter Tryz.func48, Tryz.ntmps48
  go_wp2_with fail
  refine HWY.out.mono ?_
  rintro r w1 ⟨v, rfl, hrow, hB1⟩
  obtain ⟨g, cap, rfl⟩ := ownsRow_succ hrow
  have hg := hrow.cellAt m (by omega)
  rw [show ((l ++ [fr]).map (Value.int .i64))[m]? = some (.int .i64 fr) by rw [← HM.out]; simp] at hg
  have HB1 := hid (P.bgo HB0.out hB1)
  have HR1 := hid (P.stay hB1 HR.out)
  have HT1 := hid (HT.out.below hB1)
  have HW1 := hid (HW.out.below hB1)
  have em : wrap64 (4 - ((m : Int) + 1)) = 4 - ((m : Int) + 1) := by unfold wrap64; omega
  have HWT := hid (HE.out w1 HT1.out HW1.out)
  clear hB1 hrow HWY HE ev
  go_wp2_with fail
  refine HWT.out.mono ?_
  rintro r w2 ⟨rfl, hB2⟩
  have HB2 := hid (HB1.out.trans (hB2.mono HB1.out.size))
  have hr := P.stay hB2 HR1.out
  obtain ⟨k0, k1, k2, k3⟩ := cells4V hr
  obtain ⟨f0, f1, f2, f3⟩ := free4V hr
  have HRR := hid hr
  clear hB2 hr hg
  go_wp2
  refine bodyPost_ret (P.results_row_tmp rfl _ _ w.heap.size _ rfl (run_loadVar_row _ w.heap.size 102 102 _ (0, 0) _ (put4 HRR.out _ _ _ _) Tryz.underlying102 rfl size102)) rfl ?_
  exact ⟨rfl, below_put4 HB2.out (Nat.le_refl _) _ _ _ _⟩
set_option maxRecDepth 100000 in
set_option maxHeartbeats 2000000 in
theorem rempty_at (hT : IsU u w t o root dr) (h : Wr u w s k) (f : Int) (hf : 0 ≤ f ∧ f ≤ 4095) (hx : 16 * f + 16 ≤ s.xs.length) :
    Calls Tryz.prog 81 #[.pointer (some ⟨t, 0, none⟩), .int .i64 f] w fun r w' => r = .returned (.bool (empW s.xs f)) ∧ w' = w := by
  have HW := hid h
  have HE := hid (empW_iff hf hx)
  have HX := hid (And.intro hf hx)
  obtain ⟨d, l, hm, -⟩ := h.mem
  have c1 := hm.cells.1
  have c0 := hT.cells.1
  have h3 := hm.top
  generalize hb : empW s.xs f = b at *
  obtain ⟨n, hn⟩ : ∃ n : Nat, s.xs.length = n := ⟨_, rfl⟩
  rw [hn] at c1 hx h3
  have HN := hid hn
  have e1 : wrap64 (16 * f) = 16 * f := by unfold wrap64; omega
  clear hT h hm hb hn
  go_enter Tryz.func81, Tryz.ntmps81
  go_wp2
  go_loopw [5] (fun p wr => ∃ i : Nat, p = .int .i64 i ∧ i ≤ 16 ∧ wr = w ∧ ∀ j : Nat, j < i → wordAt s.xs (16 * f + j) = 0) (fun p _ => 16 - (intOf p).toNat)
  case atStart => exact ⟨0, rfl, Nat.zero_le _, rfl, fun j hj => by omega⟩
  case round =>
    obtain ⟨i, rfl, hi, rfl, hz⟩ := hrel
    have HZ := hid hz
    clear hz
    by_cases hlt : i < 16
    · obtain ⟨a, x, ea, ha, hx2, ex, cw⟩ := HW.out.word (16 * f + i) (by omega) (by rw [HN.out]; omega)
      have hlt' : (i : Int) < 16 := by omega
      have e2 : wrap64 (16 * f + (i : Int)) = 16 * f + (i : Int) := by unfold wrap64; omega
      have ha0 : 0 ≤ 16 * f + (i : Int) := by omega
      have ha1 : 16 * f + (i : Int) < (n : Int) := by omega
      rw [HN.out] at ha
      obtain rfl : (16 * f + (i : Int)).toNat = a := by omega
      have EX := hid ex
      clear ex ea
      by_cases hx0 : x = 0
      · subst hx0
        have cw0 : wr.cell? ⟨u.wb, (16 * f + (i : Int)).toNat, none⟩ = some (.int .u64 0) := cw
        clear cw
        go_wp2
        refine ⟨⟨i + 1, by go_num, by omega, by trivial, fun j hj => ?_⟩, by simp [intOf]; omega⟩
        by_cases hji : j = i
        · rw [hji, ← EX.out]; rfl
        · exact HZ.out j (by omega)
      · have hb : b = false := by
          cases b
          · rfl
          · have := HE.out.1 rfl (i : Nat) (by omega) (by omega)
            rw [← EX.out] at this
            omega
        subst hb
        have hne : ((x : Int) != 0) = true := by simpa using hx0
        go_wp2
        go_ret
        exact ⟨rfl, rfl⟩
    · obtain rfl : i = 16 := by omega
      have hb : b = true := HE.out.2 fun j j0 j1 => by
        have := HZ.out j.toNat (by omega)
        rw [show ((j.toNat : Nat) : Int) = j by omega] at this
        exact this
      subst hb
      go_wp2
      go_ret
      exact ⟨rfl, rfl⟩
set_option maxHeartbeats 400000 in
theorem rroot_at (hT : IsU u w t o root dr) :
    Calls Tryz.prog 19 #[.pointer (some ⟨t, 0, none⟩)] w fun r w' => r = .returned (.int .i64 (if dr = true then -1 else root)) ∧ w' = w := by
  obtain ⟨-, -, -, c3, c4⟩ := hT.cells
  clear hT
  cases dr
  all_goals
    go_enter Tryz.func19, Tryz.ntmps19
    go_wp2
    go_ret
    exact ⟨rfl, rfl⟩
set_option maxHeartbeats 400000 in
theorem rquery_dr (hT : IsU u w t o root true) (pg : Int) :
    Calls Tryz.prog 14 #[.pointer (some ⟨t, 0, none⟩), .int .i64 pg] w fun r w' => r = .returned (.tuple #[.int .i64 0, .int .i64 0, .int .i64 6]) ∧ w' = w := by
  obtain ⟨-, -, -, -, c4⟩ := hT.cells
  clear hT
  go_enter Tryz.func14, Tryz.ntmps14
  go_wp2
  go_ret3
  exact ⟨rfl, rfl⟩
set_option maxRecDepth 100000 in
set_option maxHeartbeats 2000000 in
theorem rquery_at (hT : IsU u w t o root false) (h : Wr u w s k) (pg : Int) (hok : P.btw pg 0 65535 = true → WayOk s.xs root pg) (hlv : P.btw pg 0 65535 = true → (fdE s root pg).p = true → (fd s root pg).2 ≤ 1) :
    Calls Tryz.prog 14 #[.pointer (some ⟨t, 0, none⟩), .int .i64 pg] w fun r w' => r = .returned (.tuple #[.int .i64 (qF s root pg), .int .i64 (qR s root pg), .int .i64 (qE s root pg)]) ∧ Below w.heap.size w w' := by
  have c4 := hT.cells.2.2.2.2
  by_cases hb : P.btw pg 0 65535 = true
  · have HL := hid (rlast_at hT h pg (hok hb))
    have hlv' := hlv hb
    obtain ⟨p0, p1⟩ := P.btw_yes.1 hb
    have g0 : ¬ pg < 0 := by omega
    have g1 : ¬ 65535 < pg := by omega
    obtain ⟨-, -, f0, f1⟩ := fdE_in s root pg
    cases hp : (fdE s root pg).p
    · have hq : qE s root pg = 4 := by unfold qE; rw [hb, hp, if_neg (by decide), if_pos rfl]
      have hf : qF s root pg = 0 := by unfold qF; rw [hq, if_neg (by decide)]
      have hr : qR s root pg = 0 := by unfold qR; rw [hq, if_neg (by decide)]
      rw [hq, hf, hr]
      generalize fdE s root pg = e at *
      obtain ⟨ep, er, el, ef⟩ := e
      simp only at hp
      subst hp
      generalize (fd s root pg).2 = v at *
      unfold P.eV at HL
      simp only at HL
      clear hT h hok hlv hb hlv' hq hf hr p0 p1 f0 f1
      go_enter Tryz.func14, Tryz.ntmps14
      go_wp2_with fail
      refine HL.out.mono ?_
      rintro r w1 ⟨rfl, hB1⟩
      have HB1 := hid hB1
      clear hB1
      go_wp2
      go_ret3
      exact ⟨rfl, HB1.out.alloc HB1.out.size _⟩
    · have hq : qE s root pg = 0 := by unfold qE; rw [hb, hp, if_neg (by decide), if_neg (by decide)]
      have hf : qF s root pg = (fdE s root pg).f + pg % P.sp (fd s root pg).2 := if_pos hq
      have hr : qR s root pg = (fdE s root pg).r := if_pos hq
      have hl1 := hlv' hp
      rw [hq, hf, hr]
      generalize fdE s root pg = e at *
      obtain ⟨ep, er, el, ef⟩ := e
      simp only at hp f0 f1 ⊢
      subst hp
      generalize (fd s root pg).2 = v at *
      unfold P.eV at HL
      simp only at HL
      obtain rfl | rfl : v = 0 ∨ v = 1 := by omega
      · have e1 : ef + pg % P.sp ((0 : Nat) : Int) = ef := by rw [sp_0]; omega
        rw [e1]
        clear hT h hok hlv hb hlv' hq hf hr p0 p1 e1 hl1
        go_enter Tryz.func14, Tryz.ntmps14
        go_wp2_with fail
        refine HL.out.mono ?_
        rintro r w1 ⟨rfl, hB1⟩
        have HB1 := hid hB1
        clear hB1
        go_wp2
        go_quiet (fail)
        go_wp2
        go_ret3
        exact ⟨rfl, below_drewN (HB1.out.alloc HB1.out.size _) _⟩
      · have e1 : pg % P.sp ((1 : Nat) : Int) = pg % 16 := by rw [sp_1]
        rw [e1]
        have e2 : wrap64 (ef + pg % 16) = ef + pg % 16 := by unfold wrap64; omega
        clear hT h hok hlv hb hlv' hq hf hr p0 p1 e1 hl1
        go_enter Tryz.func14, Tryz.ntmps14
        go_wp2_with fail
        refine HL.out.mono ?_
        rintro r w1 ⟨rfl, hB1⟩
        have HB1 := hid hB1
        clear hB1
        go_wp2
        go_quiet (fail)
        go_wp2
        go_ret3
        exact ⟨rfl, below_drewN (HB1.out.alloc HB1.out.size _) _⟩
  · have hb' : P.btw pg 0 65535 = false := by simpa using hb
    have hq : qE s root pg = 2 := by unfold qE; rw [hb', if_pos rfl]
    have hf : qF s root pg = 0 := by unfold qF; rw [hq, if_neg (by decide)]
    have hr : qR s root pg = 0 := by unfold qR; rw [hq, if_neg (by decide)]
    rw [hq, hf, hr]
    have hc : pg < 0 ∨ (¬ pg < 0 ∧ 65535 < pg) := by
      by_cases h0 : pg < 0
      · exact .inl h0
      · refine .inr ⟨h0, ?_⟩
        by_cases h1 : 65535 < pg
        · exact h1
        · exact absurd (P.btw_yes.2 ⟨by omega, by omega⟩) hb
    clear hT h hok hlv hb hb' hq hf hr
    rcases hc with g0 | ⟨g0, g1⟩
    all_goals
      go_enter Tryz.func14, Tryz.ntmps14
      go_wp2
      go_ret3
      exact ⟨rfl, Below.refl _ _⟩
end
end Go.Proofs.YtpfmmlbakbhklaaGreatDoor
namespace Go.Proofs.YtpfmmlbakbhklaaGreatDoor
open Go.RowKit
/-- What is below the first places of a frame. -/
def uK (xs : List Int) (v : Nat) (f : Int) (i : Nat) : List Int := ((List.range i).filter fun j => P.tb (pl xs f (j : Nat))).flatMap fun j => und xs v (pl xs f (j : Nat)).f
theorem uK_yes {xs : List Int} {v i : Nat} {f : Int} (h : P.tb (pl xs f (i : Nat)) = true) : uK xs v f (i + 1) = uK xs v f i ++ und xs v (pl xs f (i : Nat)).f := by
  unfold uK
  rw [List.range_succ, List.filter_append, List.flatMap_append, List.filter_cons_of_pos (by exact h), List.filter_nil]
  simp
theorem uK_no {xs : List Int} {v i : Nat} {f : Int} (h : P.tb (pl xs f (i : Nat)) = false) : uK xs v f (i + 1) = uK xs v f i := by
  unfold uK
  rw [List.range_succ, List.filter_append, List.flatMap_append, List.filter_cons_of_neg (by show ¬ P.tb (pl xs f (i : Nat)) = true; rw [h]; decide), List.filter_nil]
  simp
theorem und_uK {xs : List Int} {v : Nat} {f : Int} (h : 0 ≤ f ∧ f ≤ 4095) (hx : 16 * f + 16 ≤ xs.length) : und xs (v + 1) f = f :: uK xs v f 16 := by
  show f :: (kids xs (f, v + 1)).flatMap _ = _
  rw [kids_pl h hx]
  unfold uK
  rw [List.flatMap_map]
  simp
theorem UOk.kid {xs : List Int} {v i : Nat} {f : Int} (h : UOk xs (v + 1) f) (hi : i < 16) (ht : P.tb (pl xs f (i : Nat)) = true) : UOk xs v (pl xs f (i : Nat)).f := by
  obtain ⟨h1, h2, h3⟩ := h
  refine h3 ((pl xs f (i : Nat)).f, v + 1 - 1) ?_
  rw [kids_pl h1 h2]
  exact List.mem_map.2 ⟨i, List.mem_filter.2 ⟨List.mem_range.2 hi, by simp [ht]⟩, rfl⟩
def ulim : Nat → Nat
  | 0 => 1
  | v + 1 => 1 + 16 * ulim v
theorem uK_len {xs : List Int} {v : Nat} {f : Int} (h : ∀ j, j < 16 → P.tb (pl xs f (j : Nat)) = true → (und xs v (pl xs f (j : Nat)).f).length ≤ ulim v) : ∀ i : Nat, i ≤ 16 → (uK xs v f i).length ≤ i * ulim v
  | 0, _ => by simp [uK]
  | i + 1, hi => by
    have ih := uK_len h i (by omega)
    have e : (i + 1) * ulim v = i * ulim v + ulim v := Nat.succ_mul ..
    cases ht : P.tb (pl xs f (i : Nat))
    · rw [uK_no ht]; omega
    · have := h i (by omega) ht
      rw [uK_yes ht, List.length_append]
      omega
theorem und_len {xs : List Int} : ∀ (v : Nat) (f : Int), UOk xs v f → (und xs v f).length ≤ ulim v
  | 0, f, _ => Nat.le_refl _
  | v + 1, f, h => by
    have := uK_len (xs := xs) (v := v) (f := f) (fun j hj ht => und_len v _ (h.kid hj ht)) 16 (Nat.le_refl _)
    rw [und_uK h.1 h.2.1]
    simp only [List.length_cons, ulim]
    omega
theorem ulim_le {v : Nat} (h : v ≤ 3) : ulim v ≤ 5000 := by
  obtain rfl | rfl | rfl | rfl : v = 0 ∨ v = 1 ∨ v = 2 ∨ v = 3 := by omega
  all_goals decide
section
variable {u : Si} {w w' : World} {t : Nat} {o root : Int} {dr : Bool} {s : Sm} {k : Nat}
set_option maxRecDepth 100000 in
set_option maxHeartbeats 4000000 in
theorem runder_at : ∀ (v : Nat) (w : World) (f : Int), IsU u w t o root dr → Wr u w s k → UOk s.xs v f → v ≤ 3 →
    Calls Tryz.prog 54 #[.pointer (some ⟨t, 0, none⟩), .int .i64 f, .int .i64 (v : Nat)] w fun r w' => ∃ x, r = .returned x ∧ w'.ownsRow w.heap.size 3 1 x (und s.xs v f).length ((und s.xs v f).map (Value.int .i64)) ∧ Below w.heap.size w w'
  | 0, w, f, hT, h, hok, hv => by
    have HR0 := hid (World.ownsRow_lit (base := w.heap.size) (e := 3) (size := 1) w #[.int .i64 f] 1 (Nat.le_refl _) (by decide) rfl)
    have HB0 := hid (below_alloc w (.cells #[.int .i64 f] 3))
    clear hT h hok hv
    go_enter Tryz.func54, Tryz.ntmps54
    go_wp2
    go_loopw [7, 8] (fun x p wr => x = .slice (some ⟨w.heap.size, 0, none⟩) 1 1 ∧ p = .int .i64 0 ∧ wr = w.alloc (.cells #[.int .i64 f] 3)) (fun _ _ _ => 0)
    case atStart => exact ⟨rfl, rfl, rfl⟩
    case round =>
      obtain ⟨rfl, rfl, rfl⟩ := hrel
      go_wp2
      go_ret
      exact ⟨_, rfl, HR0.out, HB0.out⟩
  | v + 1, w, f, hT, h, hok, hv => by
    obtain ⟨i0, hi3, hz0, hz1, hz2⟩ := info_parts info3'
    have HINF := hid (And.intro hi3 (And.intro hz0 (And.intro hz1 hz2)))
    have HT := hid hT
    have HW := hid h
    have HOK := hid hok
    have HV := hid hv
    have HX := hid (And.intro hok.1 hok.2.1)
    have HR0 := hid (World.ownsRow_lit (base := w.heap.size) (e := 3) (size := 1) w #[.int .i64 f] 1 (Nat.le_refl _) (by decide) rfl)
    have HB0 := hid (below_alloc w (.cells #[.int .i64 f] 3))
    have HU := hid (und_uK (v := v) hok.1 hok.2.1)
    have HUL := hid (uK_len (xs := s.xs) (v := v) (f := f) (fun j hj ht => und_len v _ (hok.kid hj ht)))
    have HLM := hid (ulim_le (v := v) (by omega))
    have hf := hok.1
    have e1 : wrap64 (16 * f) = 16 * f := by unfold wrap64; omega
    have ev : ((v + 1 : Nat) : Int) = (v : Int) + 1 := by omega
    have hv0 : (0 : Int) < (v : Int) + 1 := by omega
    have ev1 : wrap64 ((v : Int) + 1 - 1) = (v : Int) := by unfold wrap64; omega
    rw [ev]
    clear hT h hok hi3 hz0 hz1 hz2
    go_enter Tryz.func54, Tryz.ntmps54
    go_wp2
    go_loopw [7, 8] (fun x p wr => ∃ i : Nat, p = .int .i64 i ∧ i ≤ 16 ∧ wr.ownsRow w.heap.size 3 1 x ((uK s.xs v f i).length + 1) ((f :: uK s.xs v f i).map (Value.int .i64)) ∧ Below w.heap.size w wr) (fun _ p _ => 16 - (intOf p).toNat)
    case atStart => exact ⟨0, rfl, Nat.zero_le _, HR0.out, HB0.out⟩
    case round =>
      obtain ⟨i, rfl, hi, hrow, hBr⟩ := hrel
      have HROW := hid hrow
      have HBR := hid hBr
      obtain ⟨g, cap, rfl⟩ := ownsRow_succ hrow
      clear hrow
      by_cases hlt : i < 16
      · have hlt' : (i : Int) < 16 := by omega
        have hx := HX.out
        obtain ⟨a, x, ea, ha, hx2, ex, cw⟩ := (HW.out.below hBr).word (16 * f + i) (by omega) (by omega)
        have e2 : wrap64 (16 * f + (i : Int)) = 16 * f + (i : Int) := by unfold wrap64; omega
        have ha0 : 0 ≤ 16 * f + (i : Int) := by omega
        have hpl : pl s.xs f (i : Nat) = P.prD x := by unfold pl; rw [← ex]; rfl
        have HP := hid (fun W => P.rparse_at x hx2 W)
        have HTB := hid (fun W => P.rtable_at (P.prD x) W)
        rw [← hpl] at HP HTB
        have HUY := hid (fun (h : P.tb (pl s.xs f (i : Nat)) = true) => uK_yes (v := v) h)
        have HUN := hid (fun (h : P.tb (pl s.xs f (i : Nat)) = false) => uK_no (v := v) h)
        have HKD := hid (fun (h : P.tb (pl s.xs f (i : Nat)) = true) => HOK.out.kid hlt h)
        have HLN := hid (fun (h : P.tb (pl s.xs f (i : Nat)) = true) => und_len v _ (HOK.out.kid hlt h))
        have hul := HUL.out i (by omega)
        generalize pl s.xs f (i : Nat) = e at *
        obtain ⟨d, l, hm, -⟩ := (HW.out.below hBr).mem
        have c1 := hm.cells.1
        have c0 := (HT.out.below hBr).cells.1
        obtain ⟨n, hn⟩ : ∃ n : Nat, s.xs.length = n := ⟨_, rfl⟩
        rw [hn] at c1 ha
        obtain ⟨ep, er, el, ef⟩ := e
        unfold P.ptwo P.eV at HP
        unfold P.eV at HTB
        simp only at HP HTB HUY HUN HKD HLN
        have ha1 : 16 * f + (i : Int) < (n : Int) := by omega
        obtain rfl : (16 * f + (i : Int)).toNat = a := by omega
        obtain ⟨b, hb⟩ : ∃ b, P.tb ⟨ep, er, el, ef⟩ = b := ⟨_, rfl⟩
        rw [hb] at HTB HUY HUN HKD HLN
        clear hBr hx hpl ex hm hn ea hb
        go_wp2_with fail
        refine (HP.out _).mono ?_
        rintro r w1 ⟨rfl, hB1⟩
        have HRW1 := hid (own_bel HROW.out hB1)
        have HB1 := hid (HBR.out.trans (hB1.mono HBR.out.size))
        have HNB := hid (heap_alloc_new w1 (.cells #[.bool ep, .int .i64 er, .bool el, .int .i64 ef] 102))
        have HBA := hid (below_alloc w1 (.cells #[.bool ep, .int .i64 er, .bool el, .int .i64 ef] 102))
        clear hB1 cw c0 c1
        go_wp2_with fail
        refine (HTB.out _).mono ?_
        rintro r w2 ⟨rfl, hB2⟩
        have HB2 := hid (P.bgo HBA.out hB2)
        have HN2 := hid (P.stay hB2 HNB.out)
        have HRW2 := hid (own_bel HRW1.out HB2.out)
        have HBW := hid (HB1.out.trans (HB2.out.mono HB1.out.size))
        clear hB2 HRW1 HNB HBA
        cases b
        · go_wp2
          refine ⟨⟨i + 1, by go_num, by omega, ?_, HBW.out⟩, by simp [intOf]; omega⟩
          rw [HUN.out (by trivial)]
          exact HRW2.out
        · have hcf := (cells4V HN2.out).2.2.2
          have HRE := hid (runder_at v w2 ef (HT.out.below HBW.out) (HW.out.below HBW.out) (HKD.out (by trivial)) (by have := HV.out; omega))
          go_wp2_with fail
          refine HRE.out.mono ?_
          rintro r w3 ⟨x3, rfl, hrow3, hB3⟩
          have HRW3 := hid (own_bel HRW2.out hB3)
          have HBW3 := hid (HBW.out.trans (hB3.mono HBW.out.size))
          have HRO := hid hrow3
          have hn3 := HLN.out (by trivial)
          have hpos : 0 < (und s.xs v ef).length := by
            cases v with
            | zero => exact Nat.zero_lt_one
            | succ v => unfold und; simp
          have HUY2 := hid (HUY.out (by trivial))
          generalize und s.xs v ef = U at *
          obtain ⟨m, hm⟩ : ∃ m, U.length = m + 1 := ⟨U.length - 1, by omega⟩
          rw [hm] at hrow3
          obtain ⟨g3, cap3, rfl⟩ := ownsRow_succ hrow3
          have HCO := hid (hrow3.cells (g := g3) rfl)
          have HM := hid hm
          have HUL3 : Hid ((U.map (Value.int .i64)).length = (m + 1) * 1) := by simp [Hid, hm]
          obtain ⟨hi3, hz0, hz1, hz2⟩ := HINF.out
          have hsz := HBW3.out.size
          have hlm := HLM.out
          have hlk : (uK s.xs v f i).length ≤ 16 * 5000 := Nat.le_trans hul (Nat.mul_le_mul hi hlm)
          generalize hKK : uK s.xs v f i = KK at *
          clear hB3 hrow3 hcf HRE HRW2 HN2 hpos
          go_wp2_with (first | (at_builtin; refine wpList_append_own _ rfl _ _ 44 rfl w.heap.size 3 i0 (.int .i64 0) 1 8 Tryz.underlying44 hi3 hz0 hz1 hz2 rfl (by decide) _ _ _ rfl HRW3.out ⟨g3, 0, none⟩ (m + 1) cap3 (U.map (Value.int .i64)) rfl HUL3.out HCO.out (by intro u hu; obtain ⟨y, -, rfl⟩ := List.mem_map.1 hu; rfl) (by unfold maxLen; omega) (by omega) (by omega) ?_; intro v' w4 hown' hg4 hnil4; go_frame) | go_in)
          have hg4' : w3.grownBy w4 (Value.slice (some ⟨g, 0, none⟩) (KK.length + 1) cap).ownBlock := hg4
          refine ⟨⟨i + 1, by go_num, by omega, ?_, HBW3.out.grown hg4' hsz (fun j hj => (HRW3.out.lt _ hj).1)⟩, by simp [intOf]; omega⟩
          rw [HUY2.out, List.length_append, HM.out, show KK.length + (m + 1) + 1 = KK.length + 1 + (m + 1) by omega]
          rw [← List.cons_append, List.map_append]
          exact hown'
      · obtain rfl : i = 16 := by omega
        go_wp2
        go_ret
        refine ⟨_, rfl, ?_, HBR.out⟩
        rw [HU.out]
        exact HROW.out
end
end Go.Proofs.YtpfmmlbakbhklaaGreatDoor
