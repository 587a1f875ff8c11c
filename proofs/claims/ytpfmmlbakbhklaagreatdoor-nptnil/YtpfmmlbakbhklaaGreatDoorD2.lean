/- What Do of package act returns and leaves: a function of the act, the words and the counts alone. Conditions: the counts are below 2^62. -/
import Derived.Test.YtpfmmlbakbhklaaGreatDoorD
import Derived.Deep.RegionHeld3
namespace Go.Proofs.YtpfmmlbakbhklaaGreatDoor
open Go.RowKit

theorem push_set {α : Type} (a : Array α) (x y : α) : (a.push x).setIfInBounds a.size y = a.push y := by
  apply Array.ext
  · simp
  · intro i h1 h2
    rw [Array.getElem_setIfInBounds (by simpa using h2)]
    simp only [Array.getElem_push]
    split
    · rename_i h; subst h; simp
    · rename_i h
      have : i < a.size := by simp at h2; omega
      simp [this]
theorem set_alloc (w : World) (o o' : Obj) : ({ w.alloc o with heap := (w.alloc o).heap.setIfInBounds w.heap.size o' } : World) = w.alloc o' :=
  congrArg (fun h => ({ w with heap := h } : World)) (push_set w.heap o o')
theorem run_ins (w : World) (es : Array MapEntry) (n : Nat) (k : Int) (v : Value) (hf : Instr.findNow (.int .i64) (.int .i64 k) es.toList 0 = some none) :
    (Instr.mapUpdate 215 (.map (some w.heap.size)) (.int .i64 k) v).run Tryz.prog (w.alloc (.map es n)) = .ok () (w.alloc (.map (es.push { key := .int .i64 k, val := v, born := n }) (n + 1))) := by
  have hb : (w.alloc (.map es n)).heap[w.heap.size]? = some (.map es n) := heap_alloc_new _ _
  have hc : (Instr.checkKey false 10000 3 (.int .i64 k)).run Tryz.prog (w.alloc (.map es n)) = .ok () (w.alloc (.map es n)) := MapKept.run_checkKey (k := .int .i64 k) Tryz.underlying3 (by simp [MapKept.IsKey]) false 9999
  simp [Instr.mapUpdate, run_underlying Tryz.underlying215, MapKept.run_getObj_map hb, hc, MapKept.run_findKey Tryz.underlying3 hf, MapKept.run_setObj_map _ hb, Result.andThen]
  exact set_alloc _ _ _

def e1 : MapEntry := { key := .int .i64 1, val := .func (.func 184) #[] #[], born := 0 }
def e2 : MapEntry := { key := .int .i64 2, val := .func (.func 185) #[] #[], born := 1 }
def e3 : MapEntry := { key := .int .i64 3, val := .func (.func 186) #[] #[], born := 2 }
def e4 : MapEntry := { key := .int .i64 4, val := .func (.func 187) #[] #[], born := 3 }
def dm : Obj := .map #[e1, e2, e3, e4] 4

set_option maxHeartbeats 400000 in
theorem deeds_at (w : World) : Calls Tryz.prog 149 #[] w fun e w' => e = .returned (.map (some w.heap.size)) ∧ w' = w.alloc dm := by
  have hmm := @run_makeMap Tryz.prog
  have i1 := run_ins w #[] 0 1 (.func (.func 184) #[] #[]) rfl
  have i2 := run_ins w #[e1] 1 2 (.func (.func 185) #[] #[]) rfl
  have i3 := run_ins w #[e1, e2] 2 3 (.func (.func 186) #[] #[]) rfl
  have i4 := run_ins w #[e1, e2, e3] 3 4 (.func (.func 187) #[] #[]) rfl
  replace i1 : (Instr.mapUpdate 215 (.map (some w.heap.size)) (.int .i64 1) (.func (.func 184) #[] #[])).run Tryz.prog (w.alloc (.map #[] 0)) = .ok () (w.alloc (.map #[e1] 1)) := i1
  replace i2 : (Instr.mapUpdate 215 (.map (some w.heap.size)) (.int .i64 2) (.func (.func 185) #[] #[])).run Tryz.prog (w.alloc (.map #[e1] 1)) = .ok () (w.alloc (.map #[e1, e2] 2)) := i2
  replace i3 : (Instr.mapUpdate 215 (.map (some w.heap.size)) (.int .i64 3) (.func (.func 186) #[] #[])).run Tryz.prog (w.alloc (.map #[e1, e2] 2)) = .ok () (w.alloc (.map #[e1, e2, e3] 3)) := i3
  replace i4 : (Instr.mapUpdate 215 (.map (some w.heap.size)) (.int .i64 4) (.func (.func 187) #[] #[])).run Tryz.prog (w.alloc (.map #[e1, e2, e3] 3)) = .ok () (w.alloc dm) := i4
  go_enter Tryz.func149, Tryz.ntmps149
  go_wp2
  go_ret
  exact ⟨rfl, rfl⟩

def deedOf (kd : Int) : Value := if kd = 1 then .func (.func 184) #[] #[] else if kd = 2 then .func (.func 185) #[] #[] else if kd = 3 then .func (.func 186) #[] #[] else if kd = 4 then .func (.func 187) #[] #[] else .nilFunc
def isDeed (kd : Int) : Bool := kd == 1 || kd == 2 || kd == 3 || kd == 4
theorem run_look (w : World) (r : Nat) (kd : Int) (hb : w.heap[r]? = some dm) :
    (Instr.lookup 215 (.map (some r)) (.int .i64 kd) true).run Tryz.prog w = .ok (.tuple #[deedOf kd, .bool (isDeed kd)]) w := by
  have hc : (Instr.checkKey false 10000 3 (.int .i64 kd)).run Tryz.prog w = .ok () w := MapKept.run_checkKey (k := .int .i64 kd) Tryz.underlying3 (by simp [MapKept.IsKey]) false 9999
  have hz : (zeroValue 213).run Tryz.prog w = .ok .nilFunc w := Tryz.zeroValue213 w
  have hb' : w.heap[r]? = some (.map #[e1, e2, e3, e4] 4) := hb
  by_cases h1 : kd = 1
  · subst h1
    have hf : Instr.findNow (.int .i64) (.int .i64 1) [e1, e2, e3, e4] 0 = some (some (0, .func (.func 184) #[] #[])) := rfl
    simp [Instr.lookup, run_underlying Tryz.underlying215, MapKept.run_getObj_map hb', hc, MapKept.run_findKey Tryz.underlying3 hf, Result.andThen, deedOf, isDeed]
  · by_cases h2 : kd = 2
    · subst h2
      have hf : Instr.findNow (.int .i64) (.int .i64 2) [e1, e2, e3, e4] 0 = some (some (1, .func (.func 185) #[] #[])) := rfl
      simp [Instr.lookup, run_underlying Tryz.underlying215, MapKept.run_getObj_map hb', hc, MapKept.run_findKey Tryz.underlying3 hf, Result.andThen, deedOf, isDeed]
    · by_cases h3 : kd = 3
      · subst h3
        have hf : Instr.findNow (.int .i64) (.int .i64 3) [e1, e2, e3, e4] 0 = some (some (2, .func (.func 186) #[] #[])) := rfl
        simp [Instr.lookup, run_underlying Tryz.underlying215, MapKept.run_getObj_map hb', hc, MapKept.run_findKey Tryz.underlying3 hf, Result.andThen, deedOf, isDeed]
      · by_cases h4 : kd = 4
        · subst h4
          have hf : Instr.findNow (.int .i64) (.int .i64 4) [e1, e2, e3, e4] 0 = some (some (3, .func (.func 187) #[] #[])) := rfl
          simp [Instr.lookup, run_underlying Tryz.underlying215, MapKept.run_getObj_map hb', hc, MapKept.run_findKey Tryz.underlying3 hf, Result.andThen, deedOf, isDeed]
        · have b1 : (kd == 1) = false := beq_eq_false_iff_ne.2 h1
          have b2 : (kd == 2) = false := beq_eq_false_iff_ne.2 h2
          have b3 : (kd == 3) = false := beq_eq_false_iff_ne.2 h3
          have b4 : (kd == 4) = false := beq_eq_false_iff_ne.2 h4
          have hf : Instr.findNow (.int .i64) (.int .i64 kd) [e1, e2, e3, e4] 0 = some none := by
            simp [Instr.findNow, Instr.sameNow, e1, e2, e3, e4, b1, b2, b3, b4]
          simp [Instr.lookup, run_underlying Tryz.underlying215, MapKept.run_getObj_map hb', hc, MapKept.run_findKey Tryz.underlying3 hf, Result.andThen, deedOf, isDeed, h1, h2, h3, h4]

/-- The world in which an act is looked up. -/
abbrev W1 (w : World) (x : Ac) : World := (w.alloc (.cells (acC x) 175)).alloc (.cells #[.int .u64 0, .bool false, .int .i64 0] 172)
theorem deeds_in {w w' : World} {x : Ac} (h : w'.cell? ⟨w.heap.size, 0, none⟩ = some (.int .i64 x.kd) ∧ Below (W1 w x).heap.size (W1 w x) w') :
    Calls Tryz.prog 149 #[] w' fun e w'' => ∃ r, e = .returned (.map (some r)) ∧ (Instr.lookup 215 (.map (some r)) (.int .i64 x.kd) true).run Tryz.prog w'' = .ok (.tuple #[deedOf x.kd, .bool (isDeed x.kd)]) w'' ∧ (w''.cell? ⟨w.heap.size, 0, none⟩ = some (.int .i64 x.kd) ∧ Below (W1 w x).heap.size (W1 w x) w'') := by
  refine (deeds_at w').mono ?_
  rintro e w'' ⟨rfl, rfl⟩
  have hlt : w.heap.size < w'.heap.size := World.block_lt_of_cell? w' ⟨w.heap.size, 0, none⟩ h.1
  refine ⟨_, rfl, run_look _ _ _ (heap_alloc_new _ _), ?_, h.2.alloc h.2.size _⟩
  rw [(below_alloc w' dm).cell (p := ⟨w.heap.size, 0, none⟩) hlt]
  exact h.1
theorem w1_blocks {w w' : World} {x : Ac} (h : Below (W1 w x).heap.size (W1 w x) w') : IsAc w' w.heap.size x ∧ w'.heap[w.heap.size + 1]? = some (.cells #[.int .u64 0, .bool false, .int .i64 0] 172 (0, 0)) ∧ Below w.heap.size w w' := by
  have h1 : IsAc (W1 w x) w.heap.size x := (IsAc.new w x).below (below_alloc _ _)
  have h2 : (W1 w x).heap[w.heap.size + 1]? = some (.cells #[.int .u64 0, .bool false, .int .i64 0] 172 (0, 0)) := by
    have := heap_alloc_new (w.alloc (.cells (acC x) 175)) (.cells #[.int .u64 0, .bool false, .int .i64 0] 172 (0, 0))
    simpa using this
  refine ⟨h1.below h, (h.block _ (lt_of_block h2)).trans h2, bel_trans (bel_trans (below_alloc _ _) (below_alloc _ _)) h⟩

set_option maxRecDepth 100000 in
set_option maxHeartbeats 1000000 in
theorem do_load {w : World} {p b : Nat} {s : St} {k : Nat} (h : Mem 124 w p b s) (c : Cnt s k) (hk : k ≤ bnd) (ad a b' : Int) :
    Calls Tryz.prog 106 #[.pointer (some ⟨p, 0, none⟩), acV ⟨1, ad, a, b'⟩] w fun e w' => e = .returned (reV ⟨loadV s ad, false, errV s ad⟩) ∧ Turns 124 p b w w' (loadT s ad) := by
  have HM := hid h
  have HC := hid c
  have HK := hid hk
  clear h c hk
  have HD := hid (fun w' => deeds_in (w := w) (w' := w') (x := ⟨1, ad, a, b'⟩))
  have hS0 : ((W1 w ⟨1, ad, a, b'⟩).drew.cell? ⟨w.heap.size, 0, none⟩ = some (.int .i64 1) ∧ Below (W1 w ⟨1, ad, a, b'⟩).heap.size (W1 w ⟨1, ad, a, b'⟩) (W1 w ⟨1, ad, a, b'⟩).drew) := ⟨(w1_blocks (Below.refl _ _).drew).1.c0, (Below.refl _ _).drew⟩
  have q1 : deedOf 1 = .func (.func 184) #[] #[] := rfl
  have q2 : isDeed 1 = true := rfl
  go_enter Tryz.func106, Tryz.ntmps106
  go_wp2_with fail
  go_region_held3 (fun w' => w'.cell? ⟨w.heap.size, 0, none⟩ = some (.int .i64 1) ∧ Below (W1 w ⟨1, ad, a, b'⟩).heap.size (W1 w ⟨1, ad, a, b'⟩) w') (first | exact hS0 | assumption)
    (first
      | (go_at_call 149; refine (HD.out _ (by assumption)).mono ?_; rintro e w' ⟨r, rfl, hlk, hw'⟩))
  rename_i hHeld
  clear hHeld hS0 hlk
  obtain ⟨hA, hR, hB⟩ := w1_blocks hw'.2
  have c0 : w'.cell? ⟨w.heap.size, 0, none⟩ = some (.int .i64 1) := hA.c0
  have c1 : w'.cell? ⟨w.heap.size, 1, none⟩ = some (.int .i64 ad) := hA.c1
  have c2 : w'.cell? ⟨w.heap.size, 2, none⟩ = some (.int .u64 a) := hA.c2
  have c3 : w'.cell? ⟨w.heap.size, 3, none⟩ = some (.int .u64 b') := hA.c3
  have HB := hid hB
  have HR := hid hR
  clear hA hR hB hw'
  go_wp2_with fail
  refine (dload_at (HM.out.below HB.out) HC.out HK.out ⟨1, ad, a, b'⟩).mono ?_
  rintro e w2 ⟨rfl, hT⟩
  have hl := HM.out.lt
  have hg : w2.heap[w.heap.size + 1]? = some (.cells #[.int .u64 0, .bool false, .int .i64 0] 172 (0, 0)) := (hT.2.block _ (lt_of_block HR.out) (by omega) (by omega)).trans HR.out
  have T : Turns 124 p b w w2 (loadT s ad) := ⟨hT.1, (But.of_below HB.out).trans hT.2⟩
  have HT := hid T
  clear T hT hl
  have d0 : w2.cell? ⟨w.heap.size + 1, 0, none⟩ = some (.int .u64 0) := cell_of hg rfl
  have d1 : w2.cell? ⟨w.heap.size + 1, 1, none⟩ = some (.bool false) := cell_of hg rfl
  have d2 : w2.cell? ⟨w.heap.size + 1, 2, none⟩ = some (.int .i64 0) := cell_of hg rfl
  have f0 := free_of (i := 0) hg
  have f1 := free_of (i := 1) hg
  have f2 := free_of (i := 2) hg
  have HG := hid hg
  clear hg
  simp only []
  go_wp2
  (try simp only [Exit.inBlock, Exit.then])
  refine bodyPost_ret (results_cell_row rfl _ _ (w.heap.size + 1) 172 _ (0, 0) _ rfl (put3 HG.out _ _ _) Tryz.underlying172 rfl size172) rfl ?_
  exact ⟨rfl, turns_set HM.out (turns_set HM.out (turns_set HM.out HT.out _ _ _ (by omega)) _ _ _ (by omega)) _ _ _ (by omega)⟩

set_option maxRecDepth 100000 in
set_option maxHeartbeats 1000000 in
theorem do_store {w : World} {p b : Nat} {s : St} {k : Nat} (h : Mem 124 w p b s) (c : Cnt s k) (hk : k ≤ bnd) (ad a b' : Int) :
    Calls Tryz.prog 106 #[.pointer (some ⟨p, 0, none⟩), acV ⟨2, ad, a, b'⟩] w fun e w' => e = .returned (reV ⟨0, false, errV s ad⟩) ∧ Turns 124 p b w w' (storeT s ad a) := by
  have HM := hid h
  have HC := hid c
  have HK := hid hk
  clear h c hk
  have HD := hid (fun w' => deeds_in (w := w) (w' := w') (x := ⟨2, ad, a, b'⟩))
  have hS0 : ((W1 w ⟨2, ad, a, b'⟩).drew.cell? ⟨w.heap.size, 0, none⟩ = some (.int .i64 2) ∧ Below (W1 w ⟨2, ad, a, b'⟩).heap.size (W1 w ⟨2, ad, a, b'⟩) (W1 w ⟨2, ad, a, b'⟩).drew) := ⟨(w1_blocks (Below.refl _ _).drew).1.c0, (Below.refl _ _).drew⟩
  have q1 : deedOf 2 = .func (.func 185) #[] #[] := rfl
  have q2 : isDeed 2 = true := rfl
  go_enter Tryz.func106, Tryz.ntmps106
  go_wp2_with fail
  go_region_held3 (fun w' => w'.cell? ⟨w.heap.size, 0, none⟩ = some (.int .i64 2) ∧ Below (W1 w ⟨2, ad, a, b'⟩).heap.size (W1 w ⟨2, ad, a, b'⟩) w') (first | exact hS0 | assumption)
    (first
      | (go_at_call 149; refine (HD.out _ (by assumption)).mono ?_; rintro e w' ⟨r, rfl, hlk, hw'⟩))
  rename_i hHeld
  clear hHeld hS0 hlk
  obtain ⟨hA, hR, hB⟩ := w1_blocks hw'.2
  have c0 : w'.cell? ⟨w.heap.size, 0, none⟩ = some (.int .i64 2) := hA.c0
  have c1 : w'.cell? ⟨w.heap.size, 1, none⟩ = some (.int .i64 ad) := hA.c1
  have c2 : w'.cell? ⟨w.heap.size, 2, none⟩ = some (.int .u64 a) := hA.c2
  have c3 : w'.cell? ⟨w.heap.size, 3, none⟩ = some (.int .u64 b') := hA.c3
  have HB := hid hB
  have HR := hid hR
  clear hA hR hB hw'
  go_wp2_with fail
  refine (dstore_at (HM.out.below HB.out) HC.out HK.out ⟨2, ad, a, b'⟩).mono ?_
  rintro e w2 ⟨rfl, hT⟩
  have hl := HM.out.lt
  have hg : w2.heap[w.heap.size + 1]? = some (.cells #[.int .u64 0, .bool false, .int .i64 0] 172 (0, 0)) := (hT.2.block _ (lt_of_block HR.out) (by omega) (by omega)).trans HR.out
  have T : Turns 124 p b w w2 (storeT s ad a) := ⟨hT.1, (But.of_below HB.out).trans hT.2⟩
  have HT := hid T
  clear T hT hl
  have d0 : w2.cell? ⟨w.heap.size + 1, 0, none⟩ = some (.int .u64 0) := cell_of hg rfl
  have d1 : w2.cell? ⟨w.heap.size + 1, 1, none⟩ = some (.bool false) := cell_of hg rfl
  have d2 : w2.cell? ⟨w.heap.size + 1, 2, none⟩ = some (.int .i64 0) := cell_of hg rfl
  have f0 := free_of (i := 0) hg
  have f1 := free_of (i := 1) hg
  have f2 := free_of (i := 2) hg
  have HG := hid hg
  clear hg
  simp only []
  go_wp2
  (try simp only [Exit.inBlock, Exit.then])
  refine bodyPost_ret (results_cell_row rfl _ _ (w.heap.size + 1) 172 _ (0, 0) _ rfl (put3 HG.out _ _ _) Tryz.underlying172 rfl size172) rfl ?_
  exact ⟨rfl, turns_set HM.out (turns_set HM.out (turns_set HM.out HT.out _ _ _ (by omega)) _ _ _ (by omega)) _ _ _ (by omega)⟩

set_option maxRecDepth 100000 in
set_option maxHeartbeats 1000000 in
theorem do_cas {w : World} {p b : Nat} {s : St} {k : Nat} (h : Mem 124 w p b s) (c : Cnt s k) (hk : k ≤ bnd) (ad a b' : Int) :
    Calls Tryz.prog 106 #[.pointer (some ⟨p, 0, none⟩), acV ⟨3, ad, a, b'⟩] w fun e w' => e = .returned (reV ⟨0, casV s ad a, errV s ad⟩) ∧ Turns 124 p b w w' (casT s ad a b') := by
  have HM := hid h
  have HC := hid c
  have HK := hid hk
  clear h c hk
  have HD := hid (fun w' => deeds_in (w := w) (w' := w') (x := ⟨3, ad, a, b'⟩))
  have hS0 : ((W1 w ⟨3, ad, a, b'⟩).drew.cell? ⟨w.heap.size, 0, none⟩ = some (.int .i64 3) ∧ Below (W1 w ⟨3, ad, a, b'⟩).heap.size (W1 w ⟨3, ad, a, b'⟩) (W1 w ⟨3, ad, a, b'⟩).drew) := ⟨(w1_blocks (Below.refl _ _).drew).1.c0, (Below.refl _ _).drew⟩
  have q1 : deedOf 3 = .func (.func 186) #[] #[] := rfl
  have q2 : isDeed 3 = true := rfl
  go_enter Tryz.func106, Tryz.ntmps106
  go_wp2_with fail
  go_region_held3 (fun w' => w'.cell? ⟨w.heap.size, 0, none⟩ = some (.int .i64 3) ∧ Below (W1 w ⟨3, ad, a, b'⟩).heap.size (W1 w ⟨3, ad, a, b'⟩) w') (first | exact hS0 | assumption)
    (first
      | (go_at_call 149; refine (HD.out _ (by assumption)).mono ?_; rintro e w' ⟨r, rfl, hlk, hw'⟩))
  rename_i hHeld
  clear hHeld hS0 hlk
  obtain ⟨hA, hR, hB⟩ := w1_blocks hw'.2
  have c0 : w'.cell? ⟨w.heap.size, 0, none⟩ = some (.int .i64 3) := hA.c0
  have c1 : w'.cell? ⟨w.heap.size, 1, none⟩ = some (.int .i64 ad) := hA.c1
  have c2 : w'.cell? ⟨w.heap.size, 2, none⟩ = some (.int .u64 a) := hA.c2
  have c3 : w'.cell? ⟨w.heap.size, 3, none⟩ = some (.int .u64 b') := hA.c3
  have HB := hid hB
  have HR := hid hR
  clear hA hR hB hw'
  go_wp2_with fail
  refine (dcas_at (HM.out.below HB.out) HC.out HK.out ⟨3, ad, a, b'⟩).mono ?_
  rintro e w2 ⟨rfl, hT⟩
  have hl := HM.out.lt
  have hg : w2.heap[w.heap.size + 1]? = some (.cells #[.int .u64 0, .bool false, .int .i64 0] 172 (0, 0)) := (hT.2.block _ (lt_of_block HR.out) (by omega) (by omega)).trans HR.out
  have T : Turns 124 p b w w2 (casT s ad a b') := ⟨hT.1, (But.of_below HB.out).trans hT.2⟩
  have HT := hid T
  clear T hT hl
  have d0 : w2.cell? ⟨w.heap.size + 1, 0, none⟩ = some (.int .u64 0) := cell_of hg rfl
  have d1 : w2.cell? ⟨w.heap.size + 1, 1, none⟩ = some (.bool false) := cell_of hg rfl
  have d2 : w2.cell? ⟨w.heap.size + 1, 2, none⟩ = some (.int .i64 0) := cell_of hg rfl
  have f0 := free_of (i := 0) hg
  have f1 := free_of (i := 1) hg
  have f2 := free_of (i := 2) hg
  have HG := hid hg
  clear hg
  simp only []
  go_wp2
  (try simp only [Exit.inBlock, Exit.then])
  refine bodyPost_ret (results_cell_row rfl _ _ (w.heap.size + 1) 172 _ (0, 0) _ rfl (put3 HG.out _ _ _) Tryz.underlying172 rfl size172) rfl ?_
  exact ⟨rfl, turns_set HM.out (turns_set HM.out (turns_set HM.out HT.out _ _ _ (by omega)) _ _ _ (by omega)) _ _ _ (by omega)⟩

set_option maxRecDepth 100000 in
set_option maxHeartbeats 1000000 in
theorem do_add {w : World} {p b : Nat} {s : St} {k : Nat} (h : Mem 124 w p b s) (c : Cnt s k) (hk : k ≤ bnd) (ad a b' : Int) :
    Calls Tryz.prog 106 #[.pointer (some ⟨p, 0, none⟩), acV ⟨4, ad, a, b'⟩] w fun e w' => e = .returned (reV ⟨loadV s ad, false, errV s ad⟩) ∧ Turns 124 p b w w' (addT s ad a) := by
  have HM := hid h
  have HC := hid c
  have HK := hid hk
  clear h c hk
  have HD := hid (fun w' => deeds_in (w := w) (w' := w') (x := ⟨4, ad, a, b'⟩))
  have hS0 : ((W1 w ⟨4, ad, a, b'⟩).drew.cell? ⟨w.heap.size, 0, none⟩ = some (.int .i64 4) ∧ Below (W1 w ⟨4, ad, a, b'⟩).heap.size (W1 w ⟨4, ad, a, b'⟩) (W1 w ⟨4, ad, a, b'⟩).drew) := ⟨(w1_blocks (Below.refl _ _).drew).1.c0, (Below.refl _ _).drew⟩
  have q1 : deedOf 4 = .func (.func 187) #[] #[] := rfl
  have q2 : isDeed 4 = true := rfl
  go_enter Tryz.func106, Tryz.ntmps106
  go_wp2_with fail
  go_region_held3 (fun w' => w'.cell? ⟨w.heap.size, 0, none⟩ = some (.int .i64 4) ∧ Below (W1 w ⟨4, ad, a, b'⟩).heap.size (W1 w ⟨4, ad, a, b'⟩) w') (first | exact hS0 | assumption)
    (first
      | (go_at_call 149; refine (HD.out _ (by assumption)).mono ?_; rintro e w' ⟨r, rfl, hlk, hw'⟩))
  rename_i hHeld
  clear hHeld hS0 hlk
  obtain ⟨hA, hR, hB⟩ := w1_blocks hw'.2
  have c0 : w'.cell? ⟨w.heap.size, 0, none⟩ = some (.int .i64 4) := hA.c0
  have c1 : w'.cell? ⟨w.heap.size, 1, none⟩ = some (.int .i64 ad) := hA.c1
  have c2 : w'.cell? ⟨w.heap.size, 2, none⟩ = some (.int .u64 a) := hA.c2
  have c3 : w'.cell? ⟨w.heap.size, 3, none⟩ = some (.int .u64 b') := hA.c3
  have HB := hid hB
  have HR := hid hR
  clear hA hR hB hw'
  go_wp2_with fail
  refine (dadd_at (HM.out.below HB.out) HC.out HK.out ⟨4, ad, a, b'⟩).mono ?_
  rintro e w2 ⟨rfl, hT⟩
  have hl := HM.out.lt
  have hg : w2.heap[w.heap.size + 1]? = some (.cells #[.int .u64 0, .bool false, .int .i64 0] 172 (0, 0)) := (hT.2.block _ (lt_of_block HR.out) (by omega) (by omega)).trans HR.out
  have T : Turns 124 p b w w2 (addT s ad a) := ⟨hT.1, (But.of_below HB.out).trans hT.2⟩
  have HT := hid T
  clear T hT hl
  have d0 : w2.cell? ⟨w.heap.size + 1, 0, none⟩ = some (.int .u64 0) := cell_of hg rfl
  have d1 : w2.cell? ⟨w.heap.size + 1, 1, none⟩ = some (.bool false) := cell_of hg rfl
  have d2 : w2.cell? ⟨w.heap.size + 1, 2, none⟩ = some (.int .i64 0) := cell_of hg rfl
  have f0 := free_of (i := 0) hg
  have f1 := free_of (i := 1) hg
  have f2 := free_of (i := 2) hg
  have HG := hid hg
  clear hg
  simp only []
  go_wp2
  (try simp only [Exit.inBlock, Exit.then])
  refine bodyPost_ret (results_cell_row rfl _ _ (w.heap.size + 1) 172 _ (0, 0) _ rfl (put3 HG.out _ _ _) Tryz.underlying172 rfl size172) rfl ?_
  exact ⟨rfl, turns_set HM.out (turns_set HM.out (turns_set HM.out HT.out _ _ _ (by omega)) _ _ _ (by omega)) _ _ _ (by omega)⟩

set_option maxRecDepth 100000 in
set_option maxHeartbeats 1000000 in
theorem do_none {w : World} {p b : Nat} {s : St} (h : Mem 124 w p b s) (kd ad a b' : Int) (h1 : kd ≠ 1) (h2 : kd ≠ 2) (h3 : kd ≠ 3) (h4 : kd ≠ 4) :
    Calls Tryz.prog 106 #[.pointer (some ⟨p, 0, none⟩), acV ⟨kd, ad, a, b'⟩] w fun e w' => e = .returned (reV ⟨0, false, 1⟩) ∧ Turns 124 p b w w' s := by
  have HM := hid h
  clear h
  have HD := hid (fun w' => deeds_in (w := w) (w' := w') (x := ⟨kd, ad, a, b'⟩))
  have hS0 : ((W1 w ⟨kd, ad, a, b'⟩).drew.cell? ⟨w.heap.size, 0, none⟩ = some (.int .i64 kd) ∧ Below (W1 w ⟨kd, ad, a, b'⟩).heap.size (W1 w ⟨kd, ad, a, b'⟩) (W1 w ⟨kd, ad, a, b'⟩).drew) := ⟨(w1_blocks (Below.refl _ _).drew).1.c0, (Below.refl _ _).drew⟩
  have q1 : deedOf kd = .nilFunc := by simp [deedOf, h1, h2, h3, h4]
  have q2 : isDeed kd = false := by simp [isDeed, h1, h2, h3, h4]
  clear h1 h2 h3 h4
  go_enter Tryz.func106, Tryz.ntmps106
  go_wp2_with fail
  go_region_held3 (fun w' => w'.cell? ⟨w.heap.size, 0, none⟩ = some (.int .i64 kd) ∧ Below (W1 w ⟨kd, ad, a, b'⟩).heap.size (W1 w ⟨kd, ad, a, b'⟩) w') (first | exact hS0 | assumption)
    (first
      | (go_at_call 149; refine (HD.out _ (by assumption)).mono ?_; rintro e w2 ⟨r, rfl, hlk, hw'⟩))
  rename_i hHeld
  clear hHeld hS0 hlk
  obtain ⟨hA, hg, hB⟩ := w1_blocks hw'.2
  have T : Turns 124 p b w w2 s := ⟨HM.out.below hB, But.of_below hB⟩
  have HT := hid T
  clear T hA hB hw'
  have d0 : w2.cell? ⟨w.heap.size + 1, 0, none⟩ = some (.int .u64 0) := cell_of hg rfl
  have d1 : w2.cell? ⟨w.heap.size + 1, 1, none⟩ = some (.bool false) := cell_of hg rfl
  have d2 : w2.cell? ⟨w.heap.size + 1, 2, none⟩ = some (.int .i64 0) := cell_of hg rfl
  have f0 := free_of (i := 0) hg
  have f1 := free_of (i := 1) hg
  have f2 := free_of (i := 2) hg
  have HG := hid hg
  clear hg
  go_wp2
  (try simp only [Exit.inBlock, Exit.then])
  refine bodyPost_ret (results_cell_row rfl _ _ (w.heap.size + 1) 172 _ (0, 0) _ rfl (put3 HG.out _ _ _) Tryz.underlying172 rfl size172) rfl ?_
  exact ⟨rfl, turns_set HM.out (turns_set HM.out (turns_set HM.out HT.out _ _ _ (by omega)) _ _ _ (by omega)) _ _ _ (by omega)⟩

theorem do_at {w : World} {p b : Nat} {s : St} {k : Nat} (h : Mem 124 w p b s) (c : Cnt s k) (hk : k ≤ bnd) (x : Ac) :
    Calls Tryz.prog 106 #[.pointer (some ⟨p, 0, none⟩), acV x] w fun e w' => e = .returned (reV (doR s x)) ∧ Turns 124 p b w w' (doT s x) := by
  obtain ⟨kd, ad, a, b'⟩ := x
  by_cases h1 : kd = 1
  · subst h1; exact do_load h c hk ad a b'
  · by_cases h2 : kd = 2
    · subst h2; exact do_store h c hk ad a b'
    · by_cases h3 : kd = 3
      · subst h3; exact do_cas h c hk ad a b'
      · by_cases h4 : kd = 4
        · subst h4; exact do_add h c hk ad a b'
        · have e1 : doR s ⟨kd, ad, a, b'⟩ = ⟨0, false, 1⟩ := by simp [doR, h1, h2, h3, h4]
          have e2 : doT s ⟨kd, ad, a, b'⟩ = s := by simp [doT, h1, h2, h3, h4]
          rw [e1, e2]
          exact do_none h kd ad a b' h1 h2 h3 h4
end Go.Proofs.YtpfmmlbakbhklaaGreatDoor
