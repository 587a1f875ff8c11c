/- What the document's answer reads off a text. Condition: the text has at most 200 bytes. -/
import Derived.Test.YtoeopapnegjooaaDoorR4
import Derived.Test.YtoeopapnegjooaaDoorR3e
import Derived.BigQuiet
import Derived.Deep.QuietTactic
namespace Go.Proofs.YtoeopapnegjooaaDoor
open Go.RowKit

def nm : Nat → ByteArray
  | 1 => ⟨#[108, 111, 97, 100]⟩
  | 2 => ⟨#[115, 116, 111, 114, 101]⟩
  | 3 => ⟨#[99, 97, 115]⟩
  | 4 => ⟨#[97, 100, 100]⟩
  | _ => ⟨#[]⟩
/-- The kind that a word has among the first j kinds. -/
def kUp (p : ByteArray) : Nat → Int
  | 0 => 0
  | 1 => 0
  | j + 2 => if nm (j + 1) = p then ((j + 1 : Nat) : Int) else kUp p (j + 1)
/-- What stands while the document reads a text. -/
structure Rf (w0 w : World) (gl ga gn : Nat) (cur : Array Value) (kd ad a b : Int) : Prop where
  res : w.heap[w0.heap.size]? = some (.cells #[.int .i64 0, .int .i64 0, .int .u64 0, .int .u64 0] 40 (0, 0))
  pcs : w.heap[gl]? = some (.cells cur 9 (0, 0))
  act : IsAc w ga ⟨kd, ad, a, b⟩
  nms : w.heap[gn]? = some (.cells #[.string ⟨#[]⟩, .string ⟨#[108, 111, 97, 100]⟩, .string ⟨#[115, 116, 111, 114, 101]⟩, .string ⟨#[99, 97, 115]⟩, .string ⟨#[97, 100, 100]⟩] 9 (0, 0))
  bel : Below w0.heap.size w0 w
  h1 : w0.heap.size < ga
  h2 : ga ≠ gl
  h3 : ga ≠ gn
theorem Rf.below {w0 w w' : World} {gl ga gn : Nat} {cur : Array Value} {kd ad a b : Int} (h : Rf w0 w gl ga gn cur kd ad a b) (k : Below w.heap.size w w') : Rf w0 w' gl ga gn cur kd ad a b :=
  ⟨(k.block _ (lt_of_block h.res)).trans h.res, (k.block _ (lt_of_block h.pcs)).trans h.pcs, h.act.below k, (k.block _ (lt_of_block h.nms)).trans h.nms, bel_trans h.bel k, h.h1, h.h2, h.h3⟩
theorem Rf.set {w0 w : World} {gl ga gn : Nat} {cur : Array Value} {kd ad a b kd' ad' a' b' : Int} (h : Rf w0 w gl ga gn cur kd ad a b) (i : Nat) (v : Value) (hv : (acC ⟨kd, ad, a, b⟩).setIfInBounds i v = acC ⟨kd', ad', a', b'⟩) :
    Rf w0 (w.setCell ⟨ga, i, none⟩ v) gl ga gn cur kd' ad' a' b' := by
  have h1 := h.h1
  refine ⟨(Below.heap_setCell _ _ _ _ (by simp; omega)).trans h.res, (Below.heap_setCell _ _ _ _ (fun e => h.h2 e.symm)).trans h.pcs, ?_, (Below.heap_setCell _ _ _ _ (fun e => h.h3 e.symm)).trans h.nms, bel_set h.bel _ _ _ (by omega), h.h1, h.h2, h.h3⟩
  have := heap_setCell_self (i := i) h.act v
  rw [hv] at this
  exact this
theorem Rf.set0 {w0 w : World} {gl ga gn : Nat} {cur : Array Value} {kd ad a b : Int} (h : Rf w0 w gl ga gn cur kd ad a b) (v : Int) : Rf w0 (w.setCell ⟨ga, 0, none⟩ (.int .i64 v)) gl ga gn cur v ad a b := h.set 0 _ rfl
theorem Rf.set2 {w0 w : World} {gl ga gn : Nat} {cur : Array Value} {kd ad a b : Int} (h : Rf w0 w gl ga gn cur kd ad a b) (v : Int) : Rf w0 (w.setCell ⟨ga, 2, none⟩ (.int .u64 v)) gl ga gn cur kd ad v b := h.set 2 _ rfl
theorem Rf.set3 {w0 w : World} {gl ga gn : Nat} {cur : Array Value} {kd ad a b : Int} (h : Rf w0 w gl ga gn cur kd ad a b) (v : Int) : Rf w0 (w.setCell ⟨ga, 3, none⟩ (.int .u64 v)) gl ga gn cur kd ad a v := h.set 3 _ rfl
theorem Rf.drewN {w0 w : World} {gl ga gn : Nat} {cur : Array Value} {kd ad a b : Int} (h : Rf w0 w gl ga gn cur kd ad a b) (n : Nat) : Rf w0 (w.drewN n) gl ga gn cur kd ad a b := by
  induction n with
  | zero => exact h
  | succ n ih => exact ih.below ((Below.refl _ _).drew)
theorem owned {w : World} {base : Nat} {v : Value} {D : List ByteArray} (h : w.ownsRow base 9 1 v D.length (D.map Value.string)) (hne : D ≠ []) :
    ∃ (g cap : Nat) (cur : Array Value), v = .slice (some ⟨g, 0, none⟩) D.length cap ∧ base ≤ g ∧ w.heap[g]? = some (.cells cur 9 (0, 0)) ∧ ∀ (i : Nat) (q : ByteArray), D[i]? = some q → cur[i]? = some (Value.string q) := by
  obtain ⟨_, h | ⟨g, cap, cur, h1, h2, h3, _, _, _, h7⟩⟩ := h
  · exact absurd (List.length_eq_zero_iff.1 h.2) hne
  · refine ⟨g, cap, cur, h1, h2, h3, fun i q hq => ?_⟩
    have hi : i < D.length := (List.getElem?_eq_some_iff.1 hq).1
    have : (cur.toList.take (D.length * 1))[i]? = (D.map Value.string)[i]? := by rw [h7]
    rw [List.getElem?_take, if_pos (by omega), List.getElem?_map, hq, Array.getElem?_toList] at this
    exact this
theorem spl_ne {cur l : List UInt8} : spl cur l ≠ [] := by
  induction l generalizing cur with
  | nil => intro h; cases h
  | cons c r ih =>
    unfold spl
    split
    · intro h; cases h
    · exact ih
set_option maxRecDepth 100000 in
set_option maxHeartbeats 1000000 in
theorem rparse_big (s : ByteArray) (hs : s.size ≤ 200) (D : List ByteArray) (hD : D.map (fun x => x.data.toList) = spl [] s.data.toList) (hb : 100 < s.size) (w : World) :
    Calls Tryd.prog 18 #[.string s] w fun e w' => e = .returned (resV none) ∧ Below w.heap.size w w' := by
  have HWd := Lib.hid (fun w => words_at s hs w)
  have HD := Lib.hid hD
  have hq : decide ((100 : Int) < s.size) = true := by simp; omega
  clear hD
  go_enter Tryd.func18, Tryd.ntmps18
  go_wp2_with fail
  have g0 : (w.alloc (.cells #[.int .i64 0, .int .i64 0, .int .u64 0, .int .u64 0] 40)).heap[w.heap.size]? = some (.cells #[.int .i64 0, .int .i64 0, .int .u64 0, .int .u64 0] 40 (0, 0)) := heap_alloc_new _ _
  refine (HWd.out _).mono ?_
  rintro e w2 ⟨v, D', rfl, hO, hD', K⟩
  obtain rfl : D' = D := data_inj (hD'.trans HD.out.symm)
  obtain ⟨gl, cap, cur, rfl, hgl, hcur, hat⟩ := owned hO (fun e => by have := HD.out; rw [e] at this; exact spl_ne this.symm)
  have g2 : w2.heap[w.heap.size]? = some (.cells #[.int .i64 0, .int .i64 0, .int .u64 0, .int .u64 0] 40 (0, 0)) := (K.block _ (lt_of_block g0)).trans g0
  have HG := Lib.hid g2
  have HB := Lib.hid (bel_trans (below_alloc w _) K)
  have r0 : w2.cell? ⟨w.heap.size, 0, none⟩ = some (.int .i64 0) := cell_of g2 rfl
  have r1 : w2.cell? ⟨w.heap.size, 1, none⟩ = some (.int .i64 0) := cell_of g2 rfl
  have r2 : w2.cell? ⟨w.heap.size, 2, none⟩ = some (.int .u64 0) := cell_of g2 rfl
  have r3 : w2.cell? ⟨w.heap.size, 3, none⟩ = some (.int .u64 0) := cell_of g2 rfl
  have k0 := free_of (i := 0) g2
  have k1 := free_of (i := 1) g2
  have k2 := free_of (i := 2) g2
  have k3 := free_of (i := 3) g2
  clear g2 K g0 hO hcur hat
  go_wp2
  (try simp only [Exit.inBlock, Exit.then])
  refine bodyPost_ret (results_row_tmp rfl _ _ w.heap.size _ rfl (run_loadVar_row _ _ 40 40 _ (0, 0) _ (put4 HG.out _ _ _ _) Tryd.underlying40 rfl size40)) rfl ?_
  exact ⟨rfl, bel_put4 HB.out _ _ _ _⟩

set_option maxRecDepth 100000 in
set_option maxHeartbeats 1000000 in
theorem rparse_few (s : ByteArray) (hs : s.size ≤ 200) (D : List ByteArray) (hD : D.map (fun x => x.data.toList) = spl [] s.data.toList) (hb : s.size ≤ 100) (hl : D.length < 2) (w : World) :
    Calls Tryd.prog 18 #[.string s] w fun e w' => e = .returned (resV none) ∧ Below w.heap.size w w' := by
  have HWd := Lib.hid (fun w => words_at s hs w)
  have HD := Lib.hid hD
  have hq : decide ((100 : Int) < s.size) = false := by simp; omega
  have hq2 : decide ((D.length : Int) < 2) = true := by simp; omega
  clear hD
  go_enter Tryd.func18, Tryd.ntmps18
  go_wp2_with fail
  have g0 : (w.alloc (.cells #[.int .i64 0, .int .i64 0, .int .u64 0, .int .u64 0] 40)).heap[w.heap.size]? = some (.cells #[.int .i64 0, .int .i64 0, .int .u64 0, .int .u64 0] 40 (0, 0)) := heap_alloc_new _ _
  refine (HWd.out _).mono ?_
  rintro e w2 ⟨v, D', rfl, hO, hD', K⟩
  obtain rfl : D' = D := data_inj (hD'.trans HD.out.symm)
  obtain ⟨gl, cap, cur, rfl, hgl, hcur, hat⟩ := owned hO (fun e => by have := HD.out; rw [e] at this; exact spl_ne this.symm)
  have g2 : w2.heap[w.heap.size]? = some (.cells #[.int .i64 0, .int .i64 0, .int .u64 0, .int .u64 0] 40 (0, 0)) := (K.block _ (lt_of_block g0)).trans g0
  have HG := Lib.hid g2
  have HB := Lib.hid (bel_trans (below_alloc w _) K)
  have r0 : w2.cell? ⟨w.heap.size, 0, none⟩ = some (.int .i64 0) := cell_of g2 rfl
  have r1 : w2.cell? ⟨w.heap.size, 1, none⟩ = some (.int .i64 0) := cell_of g2 rfl
  have r2 : w2.cell? ⟨w.heap.size, 2, none⟩ = some (.int .u64 0) := cell_of g2 rfl
  have r3 : w2.cell? ⟨w.heap.size, 3, none⟩ = some (.int .u64 0) := cell_of g2 rfl
  have k0 := free_of (i := 0) g2
  have k1 := free_of (i := 1) g2
  have k2 := free_of (i := 2) g2
  have k3 := free_of (i := 3) g2
  clear g2 K g0 hO hcur hat
  go_wp2
  (try simp only [Exit.inBlock, Exit.then])
  refine bodyPost_ret (results_row_tmp rfl _ _ w.heap.size _ rfl (run_loadVar_row _ _ 40 40 _ (0, 0) _ (put4 HG.out _ _ _ _) Tryd.underlying40 rfl size40)) rfl ?_
  exact ⟨rfl, bel_put4 HB.out _ _ _ _⟩

set_option maxRecDepth 100000 in
set_option maxHeartbeats 1000000 in
theorem rparse_many (s : ByteArray) (hs : s.size ≤ 200) (D : List ByteArray) (hD : D.map (fun x => x.data.toList) = spl [] s.data.toList) (hb : s.size ≤ 100) (hl : 4 < D.length) (w : World) :
    Calls Tryd.prog 18 #[.string s] w fun e w' => e = .returned (resV none) ∧ Below w.heap.size w w' := by
  have HWd := Lib.hid (fun w => words_at s hs w)
  have HD := Lib.hid hD
  have hq : decide ((100 : Int) < s.size) = false := by simp; omega
  have hq2 : decide ((D.length : Int) < 2) = false := by simp; omega
  have hq3 : decide ((4 : Int) < D.length) = true := by simp; omega
  clear hD
  go_enter Tryd.func18, Tryd.ntmps18
  go_wp2_with fail
  have g0 : (w.alloc (.cells #[.int .i64 0, .int .i64 0, .int .u64 0, .int .u64 0] 40)).heap[w.heap.size]? = some (.cells #[.int .i64 0, .int .i64 0, .int .u64 0, .int .u64 0] 40 (0, 0)) := heap_alloc_new _ _
  refine (HWd.out _).mono ?_
  rintro e w2 ⟨v, D', rfl, hO, hD', K⟩
  obtain rfl : D' = D := data_inj (hD'.trans HD.out.symm)
  obtain ⟨gl, cap, cur, rfl, hgl, hcur, hat⟩ := owned hO (fun e => by have := HD.out; rw [e] at this; exact spl_ne this.symm)
  have g2 : w2.heap[w.heap.size]? = some (.cells #[.int .i64 0, .int .i64 0, .int .u64 0, .int .u64 0] 40 (0, 0)) := (K.block _ (lt_of_block g0)).trans g0
  have HG := Lib.hid g2
  have HB := Lib.hid (bel_trans (below_alloc w _) K)
  have r0 : w2.cell? ⟨w.heap.size, 0, none⟩ = some (.int .i64 0) := cell_of g2 rfl
  have r1 : w2.cell? ⟨w.heap.size, 1, none⟩ = some (.int .i64 0) := cell_of g2 rfl
  have r2 : w2.cell? ⟨w.heap.size, 2, none⟩ = some (.int .u64 0) := cell_of g2 rfl
  have r3 : w2.cell? ⟨w.heap.size, 3, none⟩ = some (.int .u64 0) := cell_of g2 rfl
  have k0 := free_of (i := 0) g2
  have k1 := free_of (i := 1) g2
  have k2 := free_of (i := 2) g2
  have k3 := free_of (i := 3) g2
  clear g2 K g0 hO hcur hat
  go_wp2
  (try simp only [Exit.inBlock, Exit.then])
  refine bodyPost_ret (results_row_tmp rfl _ _ w.heap.size _ rfl (run_loadVar_row _ _ 40 40 _ (0, 0) _ (put4 HG.out _ _ _ _) Tryd.underlying40 rfl size40)) rfl ?_
  exact ⟨rfl, bel_put4 HB.out _ _ _ _⟩

theorem spl_len : ∀ (l cur : List UInt8), ∀ p ∈ spl cur l, p.length ≤ cur.length + l.length
  | [], cur, p, h => by simp [spl] at h; subst h; omega
  | c :: r, cur, p, h => by
    unfold spl at h
    split at h
    · rcases List.mem_cons.1 h with rfl | h
      · simp
      · have := spl_len r [] p h; simp at this ⊢; omega
    · have := spl_len r (cur ++ [c]) p h; simp at this ⊢; omega
theorem piece_size {s q : ByteArray} {D : List ByteArray} (hD : D.map (fun x => x.data.toList) = spl [] s.data.toList) (h : q ∈ D) : q.size ≤ s.size := by
  have : q.data.toList ∈ spl [] s.data.toList := by rw [← hD]; exact List.mem_map.2 ⟨q, h, rfl⟩
  have := spl_len _ _ _ this
  rw [size_list, size_list s]
  simpa using this
def refX (s : ByteArray) (x : Ac) : Option Ac := if showB x = s then some x else none
theorem nm_at (j : Nat) (h1 : 1 ≤ j) (h2 : j < 5) : (#[.string ⟨#[]⟩, .string ⟨#[108, 111, 97, 100]⟩, .string ⟨#[115, 116, 111, 114, 101]⟩, .string ⟨#[99, 97, 115]⟩, .string ⟨#[97, 100, 100]⟩] : Array Value)[j]? = some (Value.string (nm j)) := by
  match j, h1, h2 with
  | 1, _, _ => rfl
  | 2, _, _ => rfl
  | 3, _, _ => rfl
  | 4, _, _ => rfl
theorem kUp_yes {p : ByteArray} {j : Nat} (h1 : 1 ≤ j) (h : nm j = p) : kUp p (j + 1) = j := by
  obtain ⟨i, rfl⟩ : ∃ i, j = i + 1 := ⟨j - 1, by omega⟩
  unfold kUp; rw [if_pos h]
theorem kUp_no {p : ByteArray} {j : Nat} (h1 : 1 ≤ j) (h : nm j ≠ p) : kUp p (j + 1) = kUp p j := by
  obtain ⟨i, rfl⟩ : ∃ i, j = i + 1 := ⟨j - 1, by omega⟩
  conv => lhs; unfold kUp
  rw [if_neg h]
set_option maxRecDepth 100000 in
set_option maxHeartbeats 2000000 in
theorem rparse_2 (s : ByteArray) (hs : s.size ≤ 100) (p q1 : ByteArray) (hD : [p, q1].map (fun x => x.data.toList) = spl [] s.data.toList) (w : World) :
    Calls Tryd.prog 18 #[.string s] w fun e w' => e = .returned (resV (refX s ⟨kUp p 5, IntKind.i64.wrap (numL q1.data.toList), 0, 0⟩)) ∧ Below w.heap.size w w' := by
  have HWd := Lib.hid (fun w => words_at s (by omega) w)
  have HD := Lib.hid hD
  have hq : decide ((100 : Int) < s.size) = false := by simp; omega
  have HN1 := Lib.hid (fun w => number_at q1 (by have := piece_size (q := q1) hD (by simp); omega) w)
  have HR1 := Lib.hid (numL_range q1.data.toList)
  generalize numL q1.data.toList = n1 at HN1 HR1 ⊢
  have HSh := Lib.hid (fun w => rshow_at ⟨kUp p 5, IntKind.i64.wrap n1, 0, 0⟩ ⟨by have := HR1.out; simp only []; rw [IntKind.wrap_i64]; omega, by simp, by simp, by simp, by simp⟩ w)
  obtain ⟨ad, had⟩ : ∃ ad, IntKind.i64.wrap n1 = ad := ⟨_, rfl⟩
  rw [had] at HSh ⊢
  obtain ⟨o, ho⟩ : ∃ o, refX s ⟨kUp p 5, ad, 0, 0⟩ = o := ⟨_, rfl⟩
  rw [ho]
  unfold refX at ho
  obtain ⟨t, ht⟩ : ∃ t, showB ⟨kUp p 5, ad, 0, 0⟩ = t := ⟨_, rfl⟩
  rw [ht] at HSh ho
  have HOo := Lib.hid ho
  clear hD ho ht
  go_enter Tryd.func18, Tryd.ntmps18
  go_wp2_with fail
  have g0 : (w.alloc (.cells #[.int .i64 0, .int .i64 0, .int .u64 0, .int .u64 0] 40)).heap[w.heap.size]? = some (.cells #[.int .i64 0, .int .i64 0, .int .u64 0, .int .u64 0] 40 (0, 0)) := heap_alloc_new _ _
  refine (HWd.out _).mono ?_
  rintro e w2 ⟨v, D', rfl, hO, hD', K⟩
  obtain rfl : D' = [p, q1] := data_inj (hD'.trans HD.out.symm)
  obtain ⟨gl, cap, cur, rfl, hgl, hcur, hat⟩ := owned hO (by simp)
  have g2 : w2.heap[w.heap.size]? = some (.cells #[.int .i64 0, .int .i64 0, .int .u64 0, .int .u64 0] 40 (0, 0)) := (K.block _ (lt_of_block g0)).trans g0
  have HG := Lib.hid g2
  have HB := Lib.hid (bel_trans (below_alloc w _) K)
  have HCu := Lib.hid hcur
  have HAt := Lib.hid hat
  have e1 : w2.cell? ⟨gl, 1, none⟩ = some (.string q1) := cell_of hcur (hat 1 q1 rfl)
  have hgl' : w.heap.size < gl := by simp at hgl; omega
  have HGl := Lib.hid hgl'
  clear g2 K g0 hO hcur hat hD' hgl hgl'
  go_wp2_with fail
  refine (HN1.out _).mono ?_
  rintro e w' ⟨rfl, hw'⟩
  rw [hw']
  clear hw' w'
  go_wp2_with fail
  have HF0 : Hid (Rf w ((w2.alloc (.cells (acC ⟨0, ad, 0, 0⟩) 40)).alloc (.cells #[.string ⟨#[]⟩, .string ⟨#[108, 111, 97, 100]⟩, .string ⟨#[115, 116, 111, 114, 101]⟩, .string ⟨#[99, 97, 115]⟩, .string ⟨#[97, 100, 100]⟩] 9)) gl w2.heap.size (w2.heap.size + 1) cur 0 ad 0 0) := by
    refine Lib.hid ⟨?_, ?_, (IsAc.new w2 ⟨0, ad, 0, 0⟩).below (below_alloc _ _), ?_, zkeep (zkeep HB.out _) _, ?_, ?_, by omega⟩
    · exact hkeep (hkeep HG.out _) _
    · exact hkeep (hkeep HCu.out _) _
    · have := heap_alloc_new (w2.alloc (.cells (acC ⟨0, ad, 0, 0⟩) 40)) (.cells #[.string ⟨#[]⟩, .string ⟨#[108, 111, 97, 100]⟩, .string ⟨#[115, 116, 111, 114, 101]⟩, .string ⟨#[99, 97, 115]⟩, .string ⟨#[97, 100, 100]⟩] 9)
      simpa using this
    · exact lt_of_block HG.out
    · have := lt_of_block HCu.out; omega
  go_loopw [7] (fun kv wr => ∃ j : Nat, 1 ≤ j ∧ j ≤ 5 ∧ kv = .int .i64 j ∧ Rf w wr gl w2.heap.size (w2.heap.size + 1) cur (kUp p j) ad 0 0) (fun kv _ => 5 - (intOf kv).toNat)
  case atStart => exact ⟨1, by omega, by omega, rfl, HF0.out⟩
  case round =>
    obtain ⟨j, h1, h5, rfl, hF⟩ := hrel
    have HF := Lib.hid hF
    by_cases hlt : j < 5
    · have cn : wr.cell? ⟨w2.heap.size + 1, j, none⟩ = some (.string (nm j)) := cell_of hF.nms (nm_at j h1 hlt)
      have cp : wr.cell? ⟨gl, 0, none⟩ = some (.string p) := cell_of hF.pcs (HAt.out 0 p rfl)
      have r0 := hF.act.c0
      have k0 := free_of (i := 0) hF.act
      simp only [] at r0
      have hd : decide ((j : Int) < 5) = true := by simp; omega
      clear hF
      by_cases hn : nm j = p
      · have hb : ((nm j).toList == p.toList) = true := by rw [hn]; simp
        have HKU := Lib.hid (kUp_yes h1 hn)
        clear hn
        generalize kUp p j = kj at HF r0
        generalize nm j = nj at cn hb
        go_wp2_with fail
        go_quiet (fail)
        go_wp2
        refine ⟨⟨j + 1, by omega, by omega, by go_num, ?_⟩, by simp [intOf]; omega⟩
        rw [HKU.out]
        exact (HF.out.drewN nq).set0 _
      · have hb := ne_bytes hn
        have HKU := Lib.hid (kUp_no h1 hn)
        clear hn
        generalize kUp p j = kj at HF r0 HKU
        generalize nm j = nj at cn hb
        go_wp2_with fail
        go_quiet (fail)
        go_wp2
        refine ⟨⟨j + 1, by omega, by omega, by go_num, ?_⟩, by simp [intOf]; omega⟩
        rw [HKU.out]
        exact HF.out.drewN nq
    · have e5 : j = 5 := by omega
      subst e5
      have hgs := lt_of_block HCu.out
      have HGs := Lib.hid (Nat.ne_of_lt hgs)
      generalize kUp p 5 = k5 at HF hF HSh HOo
      have c0 := hF.act.c0
      have c1 := hF.act.c1
      have c2 := hF.act.c2
      have c3 := hF.act.c3
      have f2 := free_of (i := 2) hF.act
      have f3 := free_of (i := 3) hF.act
      simp only [] at c0 c1 c2 c3
      clear hF
      go_wp2_with fail
      refine (HSh.out _).mono ?_
      rintro e w3 ⟨rfl, K3⟩
      have F3 := (HF.out).below K3
      have HF3 := Lib.hid F3
      clear K3
      have d0 := F3.act.c0
      have d1 := F3.act.c1
      have d2 := F3.act.c2
      have d3 := F3.act.c3
      simp only [] at d0 d1 d2 d3
      have r0 : w3.cell? ⟨w.heap.size, 0, none⟩ = some (.int .i64 0) := cell_of F3.res rfl
      have r1 : w3.cell? ⟨w.heap.size, 1, none⟩ = some (.int .i64 0) := cell_of F3.res rfl
      have r2 : w3.cell? ⟨w.heap.size, 2, none⟩ = some (.int .u64 0) := cell_of F3.res rfl
      have r3 : w3.cell? ⟨w.heap.size, 3, none⟩ = some (.int .u64 0) := cell_of F3.res rfl
      have k0 := free_of (i := 0) F3.res
      have k1 := free_of (i := 1) F3.res
      have k2 := free_of (i := 2) F3.res
      have k3 := free_of (i := 3) F3.res
      clear F3
      by_cases e : t = s
      · subst e
        have hb := eq_bytes t
        have ho := HOo.out
        simp only [if_pos] at ho
        subst ho
        go_wp2
        (try simp only [Exit.inBlock, Exit.then])
        refine bodyPost_ret (results_row_tmp rfl _ _ w.heap.size _ rfl (run_loadVar_row _ _ 40 40 _ (0, 0) _ (put4 HF3.out.res _ _ _ _) Tryd.underlying40 rfl size40)) rfl ?_
        exact ⟨rfl, bel_put4 HF3.out.bel _ _ _ _⟩
      · have hb := ne_bytes e
        have ho := HOo.out
        simp only [if_neg e] at ho
        subst ho
        go_wp2
        (try simp only [Exit.inBlock, Exit.then])
        refine bodyPost_ret (results_row_tmp rfl _ _ w.heap.size _ rfl (run_loadVar_row _ _ 40 40 _ (0, 0) _ (put4 HF3.out.res _ _ _ _) Tryd.underlying40 rfl size40)) rfl ?_
        exact ⟨rfl, bel_put4 HF3.out.bel _ _ _ _⟩


set_option maxRecDepth 100000 in
set_option maxHeartbeats 2000000 in
theorem rparse_3 (s : ByteArray) (hs : s.size ≤ 100) (p q1 q2 : ByteArray) (hD : [p, q1, q2].map (fun x => x.data.toList) = spl [] s.data.toList) (w : World) :
    Calls Tryd.prog 18 #[.string s] w fun e w' => e = .returned (resV (refX s ⟨kUp p 5, IntKind.i64.wrap (numL q1.data.toList), numL q2.data.toList, 0⟩)) ∧ Below w.heap.size w w' := by
  have HWd := Lib.hid (fun w => words_at s (by omega) w)
  have HD := Lib.hid hD
  have hq : decide ((100 : Int) < s.size) = false := by simp; omega
  have HN1 := Lib.hid (fun w => number_at q1 (by have := piece_size (q := q1) hD (by simp); omega) w)
  have HR1 := Lib.hid (numL_range q1.data.toList)
  generalize numL q1.data.toList = n1 at HN1 HR1 ⊢
  have HN2 := Lib.hid (fun w => number_at q2 (by have := piece_size (q := q2) hD (by simp); omega) w)
  have HR2 := Lib.hid (numL_range q2.data.toList)
  generalize numL q2.data.toList = n2 at HN2 HR2 ⊢
  have HSh := Lib.hid (fun w => rshow_at ⟨kUp p 5, IntKind.i64.wrap n1, n2, 0⟩ ⟨by have := HR1.out; simp only []; rw [IntKind.wrap_i64]; omega, HR2.out.1, HR2.out.2, by simp, by simp⟩ w)
  obtain ⟨ad, had⟩ : ∃ ad, IntKind.i64.wrap n1 = ad := ⟨_, rfl⟩
  rw [had] at HSh ⊢
  obtain ⟨o, ho⟩ : ∃ o, refX s ⟨kUp p 5, ad, n2, 0⟩ = o := ⟨_, rfl⟩
  rw [ho]
  unfold refX at ho
  obtain ⟨t, ht⟩ : ∃ t, showB ⟨kUp p 5, ad, n2, 0⟩ = t := ⟨_, rfl⟩
  rw [ht] at HSh ho
  have HOo := Lib.hid ho
  clear hD ho ht
  go_enter Tryd.func18, Tryd.ntmps18
  go_wp2_with fail
  have g0 : (w.alloc (.cells #[.int .i64 0, .int .i64 0, .int .u64 0, .int .u64 0] 40)).heap[w.heap.size]? = some (.cells #[.int .i64 0, .int .i64 0, .int .u64 0, .int .u64 0] 40 (0, 0)) := heap_alloc_new _ _
  refine (HWd.out _).mono ?_
  rintro e w2 ⟨v, D', rfl, hO, hD', K⟩
  obtain rfl : D' = [p, q1, q2] := data_inj (hD'.trans HD.out.symm)
  obtain ⟨gl, cap, cur, rfl, hgl, hcur, hat⟩ := owned hO (by simp)
  have g2 : w2.heap[w.heap.size]? = some (.cells #[.int .i64 0, .int .i64 0, .int .u64 0, .int .u64 0] 40 (0, 0)) := (K.block _ (lt_of_block g0)).trans g0
  have HG := Lib.hid g2
  have HB := Lib.hid (bel_trans (below_alloc w _) K)
  have HCu := Lib.hid hcur
  have HAt := Lib.hid hat
  have e1 : w2.cell? ⟨gl, 1, none⟩ = some (.string q1) := cell_of hcur (hat 1 q1 rfl)
  have hgl' : w.heap.size < gl := by simp at hgl; omega
  have HGl := Lib.hid hgl'
  clear g2 K g0 hO hcur hat hD' hgl hgl'
  go_wp2_with fail
  refine (HN1.out _).mono ?_
  rintro e w' ⟨rfl, hw'⟩
  rw [hw']
  clear hw' w'
  go_wp2_with fail
  have HF0 : Hid (Rf w ((w2.alloc (.cells (acC ⟨0, ad, 0, 0⟩) 40)).alloc (.cells #[.string ⟨#[]⟩, .string ⟨#[108, 111, 97, 100]⟩, .string ⟨#[115, 116, 111, 114, 101]⟩, .string ⟨#[99, 97, 115]⟩, .string ⟨#[97, 100, 100]⟩] 9)) gl w2.heap.size (w2.heap.size + 1) cur 0 ad 0 0) := by
    refine Lib.hid ⟨?_, ?_, (IsAc.new w2 ⟨0, ad, 0, 0⟩).below (below_alloc _ _), ?_, zkeep (zkeep HB.out _) _, ?_, ?_, by omega⟩
    · exact hkeep (hkeep HG.out _) _
    · exact hkeep (hkeep HCu.out _) _
    · have := heap_alloc_new (w2.alloc (.cells (acC ⟨0, ad, 0, 0⟩) 40)) (.cells #[.string ⟨#[]⟩, .string ⟨#[108, 111, 97, 100]⟩, .string ⟨#[115, 116, 111, 114, 101]⟩, .string ⟨#[99, 97, 115]⟩, .string ⟨#[97, 100, 100]⟩] 9)
      simpa using this
    · exact lt_of_block HG.out
    · have := lt_of_block HCu.out; omega
  go_loopw [7] (fun kv wr => ∃ j : Nat, 1 ≤ j ∧ j ≤ 5 ∧ kv = .int .i64 j ∧ Rf w wr gl w2.heap.size (w2.heap.size + 1) cur (kUp p j) ad 0 0) (fun kv _ => 5 - (intOf kv).toNat)
  case atStart => exact ⟨1, by omega, by omega, rfl, HF0.out⟩
  case round =>
    obtain ⟨j, h1, h5, rfl, hF⟩ := hrel
    have HF := Lib.hid hF
    by_cases hlt : j < 5
    · have cn : wr.cell? ⟨w2.heap.size + 1, j, none⟩ = some (.string (nm j)) := cell_of hF.nms (nm_at j h1 hlt)
      have cp : wr.cell? ⟨gl, 0, none⟩ = some (.string p) := cell_of hF.pcs (HAt.out 0 p rfl)
      have r0 := hF.act.c0
      have k0 := free_of (i := 0) hF.act
      simp only [] at r0
      have hd : decide ((j : Int) < 5) = true := by simp; omega
      clear hF
      by_cases hn : nm j = p
      · have hb : ((nm j).toList == p.toList) = true := by rw [hn]; simp
        have HKU := Lib.hid (kUp_yes h1 hn)
        clear hn
        generalize kUp p j = kj at HF r0
        generalize nm j = nj at cn hb
        go_wp2_with fail
        go_quiet (fail)
        go_wp2
        refine ⟨⟨j + 1, by omega, by omega, by go_num, ?_⟩, by simp [intOf]; omega⟩
        rw [HKU.out]
        exact (HF.out.drewN nq).set0 _
      · have hb := ne_bytes hn
        have HKU := Lib.hid (kUp_no h1 hn)
        clear hn
        generalize kUp p j = kj at HF r0 HKU
        generalize nm j = nj at cn hb
        go_wp2_with fail
        go_quiet (fail)
        go_wp2
        refine ⟨⟨j + 1, by omega, by omega, by go_num, ?_⟩, by simp [intOf]; omega⟩
        rw [HKU.out]
        exact HF.out.drewN nq
    · have e5 : j = 5 := by omega
      subst e5
      have hgs := lt_of_block HCu.out
      have HGs := Lib.hid (Nat.ne_of_lt hgs)
      generalize kUp p 5 = k5 at HF hF HSh HOo
      have e2 : wr.cell? ⟨gl, 2, none⟩ = some (.string q2) := cell_of hF.pcs (HAt.out 2 q2 rfl)
      have c0 := hF.act.c0
      have c1 := hF.act.c1
      have c2 := hF.act.c2
      have c3 := hF.act.c3
      have f2 := free_of (i := 2) hF.act
      have f3 := free_of (i := 3) hF.act
      simp only [] at c0 c1 c2 c3
      clear hF
      go_wp2_with fail
      refine (HN2.out _).mono ?_
      rintro e w' ⟨rfl, hw'⟩
      rw [hw']
      clear hw' w'
      go_wp2_with fail
      refine (HSh.out _).mono ?_
      rintro e w3 ⟨rfl, K3⟩
      have F3 := (HF.out.set2 n2).below K3
      have HF3 := Lib.hid F3
      clear K3
      have d0 := F3.act.c0
      have d1 := F3.act.c1
      have d2 := F3.act.c2
      have d3 := F3.act.c3
      simp only [] at d0 d1 d2 d3
      have r0 : w3.cell? ⟨w.heap.size, 0, none⟩ = some (.int .i64 0) := cell_of F3.res rfl
      have r1 : w3.cell? ⟨w.heap.size, 1, none⟩ = some (.int .i64 0) := cell_of F3.res rfl
      have r2 : w3.cell? ⟨w.heap.size, 2, none⟩ = some (.int .u64 0) := cell_of F3.res rfl
      have r3 : w3.cell? ⟨w.heap.size, 3, none⟩ = some (.int .u64 0) := cell_of F3.res rfl
      have k0 := free_of (i := 0) F3.res
      have k1 := free_of (i := 1) F3.res
      have k2 := free_of (i := 2) F3.res
      have k3 := free_of (i := 3) F3.res
      clear F3
      by_cases e : t = s
      · subst e
        have hb := eq_bytes t
        have ho := HOo.out
        simp only [if_pos] at ho
        subst ho
        go_wp2
        (try simp only [Exit.inBlock, Exit.then])
        refine bodyPost_ret (results_row_tmp rfl _ _ w.heap.size _ rfl (run_loadVar_row _ _ 40 40 _ (0, 0) _ (put4 HF3.out.res _ _ _ _) Tryd.underlying40 rfl size40)) rfl ?_
        exact ⟨rfl, bel_put4 HF3.out.bel _ _ _ _⟩
      · have hb := ne_bytes e
        have ho := HOo.out
        simp only [if_neg e] at ho
        subst ho
        go_wp2
        (try simp only [Exit.inBlock, Exit.then])
        refine bodyPost_ret (results_row_tmp rfl _ _ w.heap.size _ rfl (run_loadVar_row _ _ 40 40 _ (0, 0) _ (put4 HF3.out.res _ _ _ _) Tryd.underlying40 rfl size40)) rfl ?_
        exact ⟨rfl, bel_put4 HF3.out.bel _ _ _ _⟩


set_option maxRecDepth 100000 in
set_option maxHeartbeats 2000000 in
theorem rparse_4 (s : ByteArray) (hs : s.size ≤ 100) (p q1 q2 q3 : ByteArray) (hD : [p, q1, q2, q3].map (fun x => x.data.toList) = spl [] s.data.toList) (w : World) :
    Calls Tryd.prog 18 #[.string s] w fun e w' => e = .returned (resV (refX s ⟨kUp p 5, IntKind.i64.wrap (numL q1.data.toList), numL q2.data.toList, numL q3.data.toList⟩)) ∧ Below w.heap.size w w' := by
  have HWd := Lib.hid (fun w => words_at s (by omega) w)
  have HD := Lib.hid hD
  have hq : decide ((100 : Int) < s.size) = false := by simp; omega
  have HN1 := Lib.hid (fun w => number_at q1 (by have := piece_size (q := q1) hD (by simp); omega) w)
  have HR1 := Lib.hid (numL_range q1.data.toList)
  generalize numL q1.data.toList = n1 at HN1 HR1 ⊢
  have HN2 := Lib.hid (fun w => number_at q2 (by have := piece_size (q := q2) hD (by simp); omega) w)
  have HR2 := Lib.hid (numL_range q2.data.toList)
  generalize numL q2.data.toList = n2 at HN2 HR2 ⊢
  have HN3 := Lib.hid (fun w => number_at q3 (by have := piece_size (q := q3) hD (by simp); omega) w)
  have HR3 := Lib.hid (numL_range q3.data.toList)
  generalize numL q3.data.toList = n3 at HN3 HR3 ⊢
  have HSh := Lib.hid (fun w => rshow_at ⟨kUp p 5, IntKind.i64.wrap n1, n2, n3⟩ ⟨by have := HR1.out; simp only []; rw [IntKind.wrap_i64]; omega, HR2.out.1, HR2.out.2, HR3.out.1, HR3.out.2⟩ w)
  obtain ⟨ad, had⟩ : ∃ ad, IntKind.i64.wrap n1 = ad := ⟨_, rfl⟩
  rw [had] at HSh ⊢
  obtain ⟨o, ho⟩ : ∃ o, refX s ⟨kUp p 5, ad, n2, n3⟩ = o := ⟨_, rfl⟩
  rw [ho]
  unfold refX at ho
  obtain ⟨t, ht⟩ : ∃ t, showB ⟨kUp p 5, ad, n2, n3⟩ = t := ⟨_, rfl⟩
  rw [ht] at HSh ho
  have HOo := Lib.hid ho
  clear hD ho ht
  go_enter Tryd.func18, Tryd.ntmps18
  go_wp2_with fail
  have g0 : (w.alloc (.cells #[.int .i64 0, .int .i64 0, .int .u64 0, .int .u64 0] 40)).heap[w.heap.size]? = some (.cells #[.int .i64 0, .int .i64 0, .int .u64 0, .int .u64 0] 40 (0, 0)) := heap_alloc_new _ _
  refine (HWd.out _).mono ?_
  rintro e w2 ⟨v, D', rfl, hO, hD', K⟩
  obtain rfl : D' = [p, q1, q2, q3] := data_inj (hD'.trans HD.out.symm)
  obtain ⟨gl, cap, cur, rfl, hgl, hcur, hat⟩ := owned hO (by simp)
  have g2 : w2.heap[w.heap.size]? = some (.cells #[.int .i64 0, .int .i64 0, .int .u64 0, .int .u64 0] 40 (0, 0)) := (K.block _ (lt_of_block g0)).trans g0
  have HG := Lib.hid g2
  have HB := Lib.hid (bel_trans (below_alloc w _) K)
  have HCu := Lib.hid hcur
  have HAt := Lib.hid hat
  have e1 : w2.cell? ⟨gl, 1, none⟩ = some (.string q1) := cell_of hcur (hat 1 q1 rfl)
  have hgl' : w.heap.size < gl := by simp at hgl; omega
  have HGl := Lib.hid hgl'
  clear g2 K g0 hO hcur hat hD' hgl hgl'
  go_wp2_with fail
  refine (HN1.out _).mono ?_
  rintro e w' ⟨rfl, hw'⟩
  rw [hw']
  clear hw' w'
  go_wp2_with fail
  have HF0 : Hid (Rf w ((w2.alloc (.cells (acC ⟨0, ad, 0, 0⟩) 40)).alloc (.cells #[.string ⟨#[]⟩, .string ⟨#[108, 111, 97, 100]⟩, .string ⟨#[115, 116, 111, 114, 101]⟩, .string ⟨#[99, 97, 115]⟩, .string ⟨#[97, 100, 100]⟩] 9)) gl w2.heap.size (w2.heap.size + 1) cur 0 ad 0 0) := by
    refine Lib.hid ⟨?_, ?_, (IsAc.new w2 ⟨0, ad, 0, 0⟩).below (below_alloc _ _), ?_, zkeep (zkeep HB.out _) _, ?_, ?_, by omega⟩
    · exact hkeep (hkeep HG.out _) _
    · exact hkeep (hkeep HCu.out _) _
    · have := heap_alloc_new (w2.alloc (.cells (acC ⟨0, ad, 0, 0⟩) 40)) (.cells #[.string ⟨#[]⟩, .string ⟨#[108, 111, 97, 100]⟩, .string ⟨#[115, 116, 111, 114, 101]⟩, .string ⟨#[99, 97, 115]⟩, .string ⟨#[97, 100, 100]⟩] 9)
      simpa using this
    · exact lt_of_block HG.out
    · have := lt_of_block HCu.out; omega
  go_loopw [7] (fun kv wr => ∃ j : Nat, 1 ≤ j ∧ j ≤ 5 ∧ kv = .int .i64 j ∧ Rf w wr gl w2.heap.size (w2.heap.size + 1) cur (kUp p j) ad 0 0) (fun kv _ => 5 - (intOf kv).toNat)
  case atStart => exact ⟨1, by omega, by omega, rfl, HF0.out⟩
  case round =>
    obtain ⟨j, h1, h5, rfl, hF⟩ := hrel
    have HF := Lib.hid hF
    by_cases hlt : j < 5
    · have cn : wr.cell? ⟨w2.heap.size + 1, j, none⟩ = some (.string (nm j)) := cell_of hF.nms (nm_at j h1 hlt)
      have cp : wr.cell? ⟨gl, 0, none⟩ = some (.string p) := cell_of hF.pcs (HAt.out 0 p rfl)
      have r0 := hF.act.c0
      have k0 := free_of (i := 0) hF.act
      simp only [] at r0
      have hd : decide ((j : Int) < 5) = true := by simp; omega
      clear hF
      by_cases hn : nm j = p
      · have hb : ((nm j).toList == p.toList) = true := by rw [hn]; simp
        have HKU := Lib.hid (kUp_yes h1 hn)
        clear hn
        generalize kUp p j = kj at HF r0
        generalize nm j = nj at cn hb
        go_wp2_with fail
        go_quiet (fail)
        go_wp2
        refine ⟨⟨j + 1, by omega, by omega, by go_num, ?_⟩, by simp [intOf]; omega⟩
        rw [HKU.out]
        exact (HF.out.drewN nq).set0 _
      · have hb := ne_bytes hn
        have HKU := Lib.hid (kUp_no h1 hn)
        clear hn
        generalize kUp p j = kj at HF r0 HKU
        generalize nm j = nj at cn hb
        go_wp2_with fail
        go_quiet (fail)
        go_wp2
        refine ⟨⟨j + 1, by omega, by omega, by go_num, ?_⟩, by simp [intOf]; omega⟩
        rw [HKU.out]
        exact HF.out.drewN nq
    · have e5 : j = 5 := by omega
      subst e5
      have hgs := lt_of_block HCu.out
      have HGs := Lib.hid (Nat.ne_of_lt hgs)
      generalize kUp p 5 = k5 at HF hF HSh HOo
      have e2 : wr.cell? ⟨gl, 2, none⟩ = some (.string q2) := cell_of hF.pcs (HAt.out 2 q2 rfl)
      have e3 : wr.cell? ⟨gl, 3, none⟩ = some (.string q3) := cell_of hF.pcs (HAt.out 3 q3 rfl)
      have c0 := hF.act.c0
      have c1 := hF.act.c1
      have c2 := hF.act.c2
      have c3 := hF.act.c3
      have f2 := free_of (i := 2) hF.act
      have f3 := free_of (i := 3) hF.act
      simp only [] at c0 c1 c2 c3
      clear hF
      go_wp2_with fail
      refine (HN2.out _).mono ?_
      rintro e w' ⟨rfl, hw'⟩
      rw [hw']
      clear hw' w'
      go_wp2_with fail
      refine (HN3.out _).mono ?_
      rintro e w' ⟨rfl, hw'⟩
      rw [hw']
      clear hw' w'
      go_wp2_with fail
      refine (HSh.out _).mono ?_
      rintro e w3 ⟨rfl, K3⟩
      have F3 := ((HF.out.set2 n2).set3 n3).below K3
      have HF3 := Lib.hid F3
      clear K3
      have d0 := F3.act.c0
      have d1 := F3.act.c1
      have d2 := F3.act.c2
      have d3 := F3.act.c3
      simp only [] at d0 d1 d2 d3
      have r0 : w3.cell? ⟨w.heap.size, 0, none⟩ = some (.int .i64 0) := cell_of F3.res rfl
      have r1 : w3.cell? ⟨w.heap.size, 1, none⟩ = some (.int .i64 0) := cell_of F3.res rfl
      have r2 : w3.cell? ⟨w.heap.size, 2, none⟩ = some (.int .u64 0) := cell_of F3.res rfl
      have r3 : w3.cell? ⟨w.heap.size, 3, none⟩ = some (.int .u64 0) := cell_of F3.res rfl
      have k0 := free_of (i := 0) F3.res
      have k1 := free_of (i := 1) F3.res
      have k2 := free_of (i := 2) F3.res
      have k3 := free_of (i := 3) F3.res
      clear F3
      by_cases e : t = s
      · subst e
        have hb := eq_bytes t
        have ho := HOo.out
        simp only [if_pos] at ho
        subst ho
        go_wp2
        (try simp only [Exit.inBlock, Exit.then])
        refine bodyPost_ret (results_row_tmp rfl _ _ w.heap.size _ rfl (run_loadVar_row _ _ 40 40 _ (0, 0) _ (put4 HF3.out.res _ _ _ _) Tryd.underlying40 rfl size40)) rfl ?_
        exact ⟨rfl, bel_put4 HF3.out.bel _ _ _ _⟩
      · have hb := ne_bytes e
        have ho := HOo.out
        simp only [if_neg e] at ho
        subst ho
        go_wp2
        (try simp only [Exit.inBlock, Exit.then])
        refine bodyPost_ret (results_row_tmp rfl _ _ w.heap.size _ rfl (run_loadVar_row _ _ 40 40 _ (0, 0) _ (put4 HF3.out.res _ _ _ _) Tryd.underlying40 rfl size40)) rfl ?_
        exact ⟨rfl, bel_put4 HF3.out.bel _ _ _ _⟩


end Go.Proofs.YtoeopapnegjooaaDoor
