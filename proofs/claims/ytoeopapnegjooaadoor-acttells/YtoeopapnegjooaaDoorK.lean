/- What Parse of package act returns: the act that a text's pieces spell, if its text is just that. Conditions: the tables stand in their variables; the text is shorter than 2^32 - 15 bytes. -/
import Derived.Test.YtoeopapnegjooaaDoorJ2
namespace Go.Proofs.YtoeopapnegjooaaDoor
open Go.RowKit

theorem splitB_sizes (sep : ByteArray) : ∀ (k : Nat) (s : ByteArray), ∀ q ∈ Lib.splitB sep 0 k s, q.size ≤ s.size
  | 0, s => by
    intro q hq
    simp [Lib.splitB] at hq
    rw [hq]; exact Nat.le_refl _
  | k + 1, s => by
    intro q hq
    unfold Lib.splitB at hq
    split at hq
    · simp at hq; rw [hq]; exact Nat.le_refl _
    · rcases List.mem_cons.1 hq with rfl | hq
      · simp only [ByteArray.size_extract]; omega
      · have := splitB_sizes sep k _ q hq
        simp only [ByteArray.size_extract] at this
        omega
theorem pcs_size {s q : ByteArray} (h : q ∈ pcs s) : q.size ≤ s.size := splitB_sizes _ _ _ q h
theorem pcs_ne (s : ByteArray) : ∃ p rest, pcs s = p :: rest := by
  unfold pcs
  generalize min 5 (s.size + 1) - 1 = k
  cases k with
  | zero => exact ⟨_, _, rfl⟩
  | succ k =>
    unfold Lib.splitB
    split
    · exact ⟨_, _, rfl⟩
    · exact ⟨_, _, rfl⟩
theorem mk_toList (l : List UInt8) : (⟨l.toArray⟩ : ByteArray).toList = l := by rw [Lib.toList_data]
theorem ne_list {p : ByteArray} {l : List UInt8} (h : p ≠ ⟨l.toArray⟩) : (l == p.toList) = false := by
  rw [beq_eq_false_iff_ne]
  intro e
  apply h
  rw [Lib.toList_data] at e
  rw [e]

def one : List ByteArray → Option ByteArray
  | [q] => some q
  | _ => none
/-- The act that pieces of a text spell. -/
def readO (ps : List ByteArray) : Option Ac :=
  match ps with
  | [] => none
  | p :: rest =>
    if p = ⟨#[108, 111, 97, 100]⟩ then (match rest with | [q1] => rd1 1 (pu q1) | _ => none)
    else if p = ⟨#[115, 116, 111, 114, 101]⟩ then (match rest with | [q1, q2] => rd2 2 (pu q1) (pu q2) | _ => none)
    else if p = ⟨#[99, 97, 115]⟩ then (match rest with | [q1, q2, q3] => rd3 3 (pu q1) (pu q2) (pu q3) | _ => none)
    else if p = ⟨#[97, 100, 100]⟩ then (match rest with | [q1, q2] => rd2 4 (pu q1) (pu q2) | _ => none)
    else none

theorem read_at (s : ByteArray) (hs : s.size < 4294967281) (w : World) (h : Std w) :
    Calls Tryd.prog 33 #[.string s] w fun e w' => e = .returned (resV (readO (pcs s))) ∧ Below w.heap.size w w' := by
  obtain ⟨p, rest, hp⟩ := pcs_ne s
  have hz : ∀ q ∈ rest, q.size ≤ 281474976710656 := fun q hq => by
    have := pcs_size (s := s) (q := q) (by rw [hp]; exact List.mem_cons_of_mem _ hq)
    omega
  by_cases h1 : p = ⟨#[108, 111, 97, 100]⟩
  · subst h1
    match rest, hp, hz with
    | [q1], hp, hz =>
      have e : readO (pcs s) = rd1 1 (pu q1) := by rw [hp]; simp [readO]
      rw [e]
      exact read_full1 s hs q1 hp (hz _ (by simp)) w h
    | [], hp, hz =>
      have e : readO (pcs s) = none := by rw [hp]; simp [readO]
      rw [e]; exact read_len1 s hs _ hp (by simp) w h
    | q1 :: q2 :: r, hp, hz =>
      have e : readO (pcs s) = none := by rw [hp]; simp [readO]
      rw [e]; exact read_len1 s hs _ hp (by simp) w h
  · by_cases h2 : p = ⟨#[115, 116, 111, 114, 101]⟩
    · subst h2
      match rest, hp, hz with
      | [q1, q2], hp, hz =>
        have e : readO (pcs s) = rd2 2 (pu q1) (pu q2) := by rw [hp]; simp [readO]
        rw [e]
        exact read_full2 s hs q1 q2 hp (hz _ (by simp)) (hz _ (by simp)) w h
      | [], hp, hz =>
        have e : readO (pcs s) = none := by rw [hp]; simp [readO]
        rw [e]; exact read_len2 s hs _ hp (by simp) w h
      | [_], hp, hz =>
        have e : readO (pcs s) = none := by rw [hp]; simp [readO]
        rw [e]; exact read_len2 s hs _ hp (by simp) w h
      | q1 :: q2 :: q3 :: r, hp, hz =>
        have e : readO (pcs s) = none := by rw [hp]; simp [readO]
        rw [e]; exact read_len2 s hs _ hp (by simp) w h
    · by_cases h3 : p = ⟨#[99, 97, 115]⟩
      · subst h3
        match rest, hp, hz with
        | [q1, q2, q3], hp, hz =>
          have e : readO (pcs s) = rd3 3 (pu q1) (pu q2) (pu q3) := by rw [hp]; simp [readO]
          rw [e]
          exact read_full3 s hs q1 q2 q3 hp (hz _ (by simp)) (hz _ (by simp)) (hz _ (by simp)) w h
        | [], hp, hz =>
          have e : readO (pcs s) = none := by rw [hp]; simp [readO]
          rw [e]; exact read_len3 s hs _ hp (by simp) w h
        | [_], hp, hz =>
          have e : readO (pcs s) = none := by rw [hp]; simp [readO]
          rw [e]; exact read_len3 s hs _ hp (by simp) w h
        | [_, _], hp, hz =>
          have e : readO (pcs s) = none := by rw [hp]; simp [readO]
          rw [e]; exact read_len3 s hs _ hp (by simp) w h
        | q1 :: q2 :: q3 :: q4 :: r, hp, hz =>
          have e : readO (pcs s) = none := by rw [hp]; simp [readO]
          rw [e]; exact read_len3 s hs _ hp (by simp) w h
      · by_cases h4 : p = ⟨#[97, 100, 100]⟩
        · subst h4
          match rest, hp, hz with
          | [q1, q2], hp, hz =>
            have e : readO (pcs s) = rd2 4 (pu q1) (pu q2) := by rw [hp]; simp [readO]
            rw [e]
            exact read_full4 s hs q1 q2 hp (hz _ (by simp)) (hz _ (by simp)) w h
          | [], hp, hz =>
            have e : readO (pcs s) = none := by rw [hp]; simp [readO]
            rw [e]; exact read_len4 s hs _ hp (by simp) w h
          | [_], hp, hz =>
            have e : readO (pcs s) = none := by rw [hp]; simp [readO]
            rw [e]; exact read_len4 s hs _ hp (by simp) w h
          | q1 :: q2 :: q3 :: r, hp, hz =>
            have e : readO (pcs s) = none := by rw [hp]; simp [readO]
            rw [e]; exact read_len4 s hs _ hp (by simp) w h
        · have e : readO (pcs s) = none := by rw [hp]; simp [readO, h1, h2, h3, h4]
          rw [e]
          exact read_word s hs p rest hp (ne_list h1) (ne_list h2) (ne_list h3) (ne_list h4) w h

theorem rd1_ok {k : Int} {s : ByteArray} {x : Ac} (h : rd1 k (pu s) = some x) : x.Ok := by
  cases e : pu s with
  | none => rw [e] at h; cases h
  | some u =>
    rw [e] at h
    simp only [rd1] at h
    split at h
    · cases h; exact ⟨by simp; omega, by simp, by simp, by simp, by simp⟩
    · cases h
theorem rd2_ok {k : Int} {s t : ByteArray} {x : Ac} (h : rd2 k (pu s) (pu t) = some x) : x.Ok := by
  cases e : pu s with
  | none => rw [e] at h; cases h
  | some u =>
    cases f : pu t with
    | none => rw [e, f] at h; cases h
    | some v =>
      have := pu_lt f
      rw [e, f] at h
      simp only [rd2] at h
      split at h
      · cases h; exact ⟨by simp; omega, by simp, by simp; omega, by simp, by simp⟩
      · cases h
theorem rd3_ok {k : Int} {s t r : ByteArray} {x : Ac} (h : rd3 k (pu s) (pu t) (pu r) = some x) : x.Ok := by
  cases e : pu s with
  | none => rw [e] at h; cases h
  | some u =>
    cases f : pu t with
    | none => rw [e, f] at h; cases h
    | some v =>
      cases g : pu r with
      | none => rw [e, f, g] at h; cases h
      | some z =>
        have := pu_lt f
        have := pu_lt g
        rw [e, f, g] at h
        simp only [rd3] at h
        split at h
        · cases h; exact ⟨by simp; omega, by simp, by simp; omega, by simp, by simp; omega⟩
        · cases h
theorem readO_ok {ps : List ByteArray} {x : Ac} (h : readO ps = some x) : x.Ok := by
  unfold readO at h
  split at h
  · cases h
  · split at h
    · split at h
      · exact rd1_ok h
      · cases h
    · split at h
      · split at h
        · exact rd2_ok h
        · cases h
      · split at h
        · split at h
          · exact rd3_ok h
          · cases h
        · split at h
          · split at h
            · exact rd2_ok h
            · cases h
          · cases h

/-- The act whose text s is. -/
def parseO (s : ByteArray) : Option Ac :=
  match readO (pcs s) with
  | some x => if showB x = s then some x else none
  | none => none
theorem parseO_ok {s : ByteArray} {x : Ac} (h : parseO s = some x) : x.Ok := by
  unfold parseO at h
  split at h
  · rename_i y e
    split at h
    · cases h; exact readO_ok e
    · cases h
  · cases h

theorem ne_bytes {p q : ByteArray} (h : p ≠ q) : (p.toList == q.toList) = false := by
  rw [beq_eq_false_iff_ne]
  intro e
  apply h
  rw [Lib.toList_data, Lib.toList_data] at e
  exact ByteArray.ext (Array.toList_inj.1 e)
theorem eq_bytes (p : ByteArray) : (p.toList == p.toList) = true := by simp

set_option maxRecDepth 100000 in
set_option maxHeartbeats 2000000 in
theorem parse_none (s : ByteArray) (hs : s.size < 4294967281) (hr : readO (pcs s) = none) (w : World) (h : Std w) :
    Calls Tryd.prog 17 #[.string s] w fun e w' => e = .returned (resV none) ∧ Below w.heap.size w w' := by
  have HR := Lib.hid (fun w h => read_at s hs w h)
  rw [hr] at HR
  have HS := Lib.hid h
  clear h hr
  go_enter Tryd.func17, Tryd.ntmps17
  go_wp2_with fail
  have g0 : (w.alloc (.cells #[.int .i64 0, .int .i64 0, .int .u64 0, .int .u64 0] 40)).heap[w.heap.size]? = some (.cells #[.int .i64 0, .int .i64 0, .int .u64 0, .int .u64 0] 40 (0, 0)) := heap_alloc_new _ _
  refine (HR.out _ (HS.out.below (below_alloc _ _))).mono ?_
  rintro e w2 ⟨rfl, K2⟩
  have g2 : w2.heap[w.heap.size]? = some (.cells #[.int .i64 0, .int .i64 0, .int .u64 0, .int .u64 0] 40 (0, 0)) := (K2.block _ (lt_of_block g0)).trans g0
  have HG := Lib.hid g2
  have HB := Lib.hid (bel_trans (below_alloc w _) K2)
  have l0 := lt_of_block g2
  clear K2 g0
  have r0 : w2.cell? ⟨w.heap.size, 0, none⟩ = some (.int .i64 0) := cell_of g2 rfl
  have r1 : w2.cell? ⟨w.heap.size, 1, none⟩ = some (.int .i64 0) := cell_of g2 rfl
  have r2 : w2.cell? ⟨w.heap.size, 2, none⟩ = some (.int .u64 0) := cell_of g2 rfl
  have r3 : w2.cell? ⟨w.heap.size, 3, none⟩ = some (.int .u64 0) := cell_of g2 rfl
  have k0 := free_of (i := 0) g2
  have k1 := free_of (i := 1) g2
  have k2 := free_of (i := 2) g2
  have k3 := free_of (i := 3) g2
  clear g2
  unfold resV noAc
  simp only []
  go_wp2
  (try simp only [Exit.inBlock, Exit.then])
  refine bodyPost_ret (results_row_tmp rfl _ _ w.heap.size _ rfl (run_loadVar_row _ _ 40 40 _ (0, 0) _ (hkeep (put4 HG.out _ _ _ _) _) Tryd.underlying40 rfl size40)) rfl ?_
  exact ⟨rfl, zkeep (bel_put4 HB.out _ _ _ _) _⟩

set_option maxRecDepth 100000 in
set_option maxHeartbeats 2000000 in
theorem parse_some (s : ByteArray) (hs : s.size < 4294967281) (x : Ac) (hr : readO (pcs s) = some x) (w : World) (h : Std w) :
    Calls Tryd.prog 17 #[.string s] w fun e w' => e = .returned (resV (if showB x = s then some x else none)) ∧ Below w.heap.size w w' := by
  have HR := Lib.hid (fun w h => read_at s hs w h)
  rw [hr] at HR
  have HO := Lib.hid (readO_ok hr)
  have HS := Lib.hid h
  obtain ⟨o, ho⟩ : ∃ o, (if showB x = s then some x else none) = o := ⟨_, rfl⟩
  rw [ho]
  have HOo := Lib.hid ho
  have HH := Lib.hid (fun w h => show_at x (HO.out) w h)
  obtain ⟨t, ht⟩ : ∃ t, showB x = t := ⟨_, rfl⟩
  rw [ht] at HH HOo
  clear h hr ho ht HO
  obtain ⟨xk, xd, xa, xb⟩ := x
  go_enter Tryd.func17, Tryd.ntmps17
  go_wp2_with fail
  have g0 : (w.alloc (.cells #[.int .i64 0, .int .i64 0, .int .u64 0, .int .u64 0] 40)).heap[w.heap.size]? = some (.cells #[.int .i64 0, .int .i64 0, .int .u64 0, .int .u64 0] 40 (0, 0)) := heap_alloc_new _ _
  refine (HR.out _ (HS.out.below (below_alloc _ _))).mono ?_
  rintro e w2 ⟨rfl, K2⟩
  have g2 : w2.heap[w.heap.size]? = some (.cells #[.int .i64 0, .int .i64 0, .int .u64 0, .int .u64 0] 40 (0, 0)) := (K2.block _ (lt_of_block g0)).trans g0
  have HG := Lib.hid g2
  have HB := Lib.hid (bel_trans (below_alloc w _) K2)
  clear K2 g0 g2
  unfold resV
  simp only []
  go_wp2_with fail
  have A2 : IsAc (w2.alloc (.cells (acC ⟨xk, xd, xa, xb⟩) 40)) w2.heap.size ⟨xk, xd, xa, xb⟩ := IsAc.new w2 _
  refine (HH.out _ ((HS.out.below HB.out).below (below_alloc _ _))).mono ?_
  rintro e w3 ⟨rfl, K3⟩
  have A3 := A2.below K3
  have g3 : w3.heap[w.heap.size]? = some (.cells #[.int .i64 0, .int .i64 0, .int .u64 0, .int .u64 0] 40 (0, 0)) := (K3.block _ (lt_of_block (hkeep HG.out _))).trans (hkeep HG.out _)
  have HG3 := Lib.hid g3
  have HB3 := Lib.hid (bel_trans HB.out (bel_trans (below_alloc w2 _) K3))
  have c0 := A3.c0
  have c1 := A3.c1
  have c2 := A3.c2
  have c3 := A3.c3
  simp only [] at c0 c1 c2 c3
  clear K3 A2 A3
  have r0 : w3.cell? ⟨w.heap.size, 0, none⟩ = some (.int .i64 0) := cell_of g3 rfl
  have r1 : w3.cell? ⟨w.heap.size, 1, none⟩ = some (.int .i64 0) := cell_of g3 rfl
  have r2 : w3.cell? ⟨w.heap.size, 2, none⟩ = some (.int .u64 0) := cell_of g3 rfl
  have r3 : w3.cell? ⟨w.heap.size, 3, none⟩ = some (.int .u64 0) := cell_of g3 rfl
  have k0 := free_of (i := 0) g3
  have k1 := free_of (i := 1) g3
  have k2 := free_of (i := 2) g3
  have k3 := free_of (i := 3) g3
  clear g3
  by_cases e : t = s
  · subst e
    have hb := eq_bytes t
    have ho := HOo.out
    simp only [if_pos] at ho
    subst ho
    go_wp2
    (try simp only [Exit.inBlock, Exit.then])
    refine bodyPost_ret (results_row_tmp rfl _ _ w.heap.size _ rfl (run_loadVar_row _ _ 40 40 _ (0, 0) _ (put4 HG3.out _ _ _ _) Tryd.underlying40 rfl size40)) rfl ?_
    exact ⟨rfl, bel_put4 HB3.out _ _ _ _⟩
  · have hb := ne_bytes e
    have ho := HOo.out
    simp only [if_neg e] at ho
    subst ho
    go_wp2
    (try simp only [Exit.inBlock, Exit.then])
    refine bodyPost_ret (results_row_tmp rfl _ _ w.heap.size _ rfl (run_loadVar_row _ _ 40 40 _ (0, 0) _ (put4 HG3.out _ _ _ _) Tryd.underlying40 rfl size40)) rfl ?_
    exact ⟨rfl, bel_put4 HB3.out _ _ _ _⟩

theorem parse_at (s : ByteArray) (hs : s.size < 4294967281) (w : World) (h : Std w) :
    Calls Tryd.prog 17 #[.string s] w fun e w' => e = .returned (resV (parseO s)) ∧ Below w.heap.size w w' := by
  unfold parseO
  cases e : readO (pcs s) with
  | none => exact parse_none s hs e w h
  | some x => exact parse_some s hs x e w h
end Go.Proofs.YtoeopapnegjooaaDoor
