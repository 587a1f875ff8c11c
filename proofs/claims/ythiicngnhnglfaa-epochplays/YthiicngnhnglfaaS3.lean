/- What has, till and takeTill return and leave, for every map that reads as what waits: whether a frame waits; those that were retired early enough, rising, in a new slice; what stays when they are struck. No conditions beyond a length. -/
import Derived.Test.YthiicngnhnglfaaS2
import Derived.Test.YthiicngnhnglfaaShelf
import Derived.Sort.OwnSortedInts
namespace Go.Proofs.Ythiicngnhnglfaa
open Go.RowKit Go.Maps Go.Sort

theorem zero3 (w : World) : (zeroValue 3).run Try.prog w = .ok (.int .i64 0) w := by kernel_rfl
theorem info3 : (Try.prog.info? 3).map (fun i => (i.zero, i.size, i.bytes)) = some (some (.int .i64 0), 1, 8) := by kernel_rfl
theorem wfN {n : Nat} (h : n < 9223372036854775808) : (Lit.int .i64 (n : Int)).wf = true := WalkArith.wf_i64 (by omega)
def ints (l : List Nat) : List Value := l.map fun x => Value.int .i64 (x : Nat)
theorem ints_map (l : List Nat) : ints l = (l.map (fun f => ((f : Nat) : Int))).map (Value.int .i64) := by simp [ints]

set_option maxHeartbeats 400000 in
theorem has_at {w : World} {m : Nat} {L : Ws} (h : Own w m L) (f : Nat) (hf : f < 9223372036854775808) :
    Calls Try.prog 29 #[.map (some m), .int .i64 f] w fun e w' => e = .returned (.bool (hasW f L)) ∧ w' = w := by
  go_enter Try.func29, Try.ntmps29
  go_wp2_with (first | (at_lookup; refine wpList_lookup_own_ok_int _ rfl _ _ 49 rfl 3 3 .i64 key3 Try.underlying49 Try.underlying3 (zero3 _) m L.length (Dm L) rfl h _ _ rfl (keyOf_int_mk Try.underlying3 (wfN hf)) ?_; intro c _ _) | go_in)
  go_ret
  exact ⟨by rw [has_Dm]; rfl, rfl⟩

set_option maxRecDepth 100000 in
set_option maxHeartbeats 1000000 in
theorem till_at {w : World} {m : Nat} {L : Ws} (h : Own w m L) (hU : Up L) (hlen : L.length ≤ 1000000) (last : Int) :
    Calls Try.prog 34 #[.map (some m), .int .i64 last] w fun e w' => ∃ v, e = .returned v ∧ w'.ownsRow w.heap.size 3 1 v (tl last L).length (ints (tl last L)) ∧ Below w.heap.size w w' := by
  obtain ⟨i0, hi, hz0, hz1, hz2⟩ := info_parts info3
  have hml := h.lt
  have HL := hid hlen
  have HM := hid hml
  clear hlen
  go_enter Try.func34, Try.ntmps34
  go_wp2_with (first
    | (at_range; refine wpList_range_own _ rfl _ 49 rfl 3 3 key3 Try.underlying49 _ m L.length _ rfl h ?_; intro w0 hrg0 hg0 hs0)
    | go_in)
  go_frame
  go_loopw [5] (fun v wr => ∃ (left : Lit → Bool) (cnt : Nat) (ss : List Int), wr.ranges Try.prog 3 (plainElem Try.prog 3) m w.heap.size L.length (Dm L) left cnt ∧ ss.length + cnt ≤ L.length ∧
      wr.ownsRow (w.heap.size + 1) 3 1 v ss.length (ss.map (Value.int .i64)) ∧ Got L last left ss ∧ Below w.heap.size w wr ∧ w.heap.size + 1 ≤ wr.heap.size)
    (fun _ wr => wr.rangeLeft m w.heap.size)
  case atStart =>
    exact ⟨_, _, [], hrg0, by rw [size_Dm]; simp, ⟨by simp, .inl ⟨rfl, rfl⟩⟩, Got.start L last, below_grown hg0, by omega⟩
  case round =>
    obtain ⟨left, cnt, ss, hrg, hcs, hrow, hG, hB, hsz⟩ := hrel
    go_wp2_with (first
      | (at_next; refine wpList_next_ranges_ii _ rfl _ rfl 3 3 .i64 .i64 key3 Try.underlying3 Try.underlying3 m w.heap.size L.length _ _ _ rfl hrg ?_ ?_)
      | go_in)
    · intro _ hl0
      have HS := hG.sorted hU hl0
      rcases hrow.2 with ⟨rfl, hnil⟩ | ⟨g, cap, cur, rfl, hbase, hb, h1, h2, h3, h4⟩
      · obtain rfl : ss = [] := List.eq_nil_of_length_eq_zero hnil
        have ht : tl last L = [] := by
          have := congrArg List.length HS
          simp at this
          exact List.eq_nil_of_length_eq_zero this.symm
        have HB := hid hB
        clear HS hG hrow hcs hB
        go_wp2_with fail
        refine (slices_Sort_int_none none 0 wr).mono ?_
        rintro e w' ⟨rfl, rfl⟩
        go_wp2
        go_ret
        refine ⟨_, rfl, ?_, HB.out⟩
        rw [ht]
        exact ⟨rfl, .inl ⟨rfl, rfl⟩⟩
      · have hH : Holds (Value.int .i64) wr g 0 ss.toArray := holds_of_blockI hb (by simpa using h4)
        have hc := slices_Sort_int g 0 cap ss wr hH (lt_of_block hb) (by have := HL.out; omega)
        rw [HS] at hc
        have hlt : (tl last L).length = ss.length := by
          have := congrArg List.length HS
          simp at this
          exact this.symm
        have HC := hid hc
        have HR := hid (fun (n : Nat) (os : Array Obj) => ownsRow_sortedI (w := wr) (n := n) (os := os) (ss := ss) (ts := (tl last L).map (fun f => ((f : Nat) : Int))) (by simpa using hlt) hbase hb h1 h2 h3)
        have HB := hid hB
        have HE := hid hbase
        have HT := hid hlt
        clear HS hG hrow hcs hB hc hH h1 h2 h3 h4 hb hlt
        go_wp2_with fail
        refine HC.out.mono ?_
        rintro e w' ⟨rfl, nn, os, hw⟩
        have HW := hid hw
        clear hw
        go_wp2
        go_ret
        refine ⟨_, rfl, ?_, ?_⟩
        · have := HR.out nn os
          rw [HW.out, HT.out, ints_map]
          obtain ⟨k1, k2⟩ := this
          refine ⟨k1, ?_⟩
          rcases k2 with k2 | ⟨g', c', cu', e', k3, k4⟩
          · exact .inl k2
          · exact .inr ⟨g', c', cu', e', by omega, k4⟩
        · rw [HW.out]
          exact HB.out.grown (grownBy_sortedI _) HB.out.size (fun j hj => by cases hj; have := HE.out; omega)
    · intro x c w2 cnt2 hwx hwc hlk hat hrg2 hlt hg2 hs2 hen
      obtain ⟨f, rfl, hfW⟩ := has_int (has_true_of_atKey hat)
      obtain ⟨a, rfl, hm⟩ := at_Dm hfW hat
      have hrow2 := hrow.kept hg2 (Or.inr (fun e => by have := (hrow.lt _ e).1; omega))
      have hB2 := hB.grown hg2 hB.size (fun j hj => by cases hj; exact Nat.le_refl _)
      have hsz2 : w.heap.size + 1 ≤ w2.heap.size := by have := hg2.size; omega
      clear hs2 hwc hwx
      by_cases ha : (a : Int) ≤ last
      · have HG := hid (hG.yes hlk hm ha)
        have hd : decide ((a : Int) ≤ last) = true := by simpa using ha
        have HRG := hid hrg2
        clear hG hat hlk hm ha
        go_wp2_with (first
          | (at_builtin; refine wpList_append_own _ rfl _ _ 35 rfl (w.heap.size + 1) 3 i0 (.int .i64 0) 1 8 Try.underlying35 hi hz0 hz1 hz2 rfl (by decide) _ _ _ rfl (hrow2.alloc _) ⟨w2.heap.size, 0, none⟩ 1 1 [.int .i64 (f : Int)] rfl rfl (cell_one_new _ _ _) (by intro u hu; simp at hu; subst hu; rfl) (by have := HL.out; unfold maxLen; omega) (by have := HL.out; omega) (by simp; omega) ?_; intro v' w3 hown' hg3 hnil3; go_frame)
          | go_in)
        have hrg3 := (HRG.out.alloc _).kept hg3 (fun e => by have := (hrow2.lt _ e.symm).1; have := HM.out; omega) (fun e => by have := (hrow2.lt _ e.symm).1; omega)
        go_roundw
        case rel =>
          refine ⟨_, cnt2, ss ++ [(f : Int)], hrg3, by simp; omega, by simpa using hown', HG.out, ?_, ?_⟩
          · exact (hB2.alloc hB2.size _).grown hg3 (by have := hB2.size; simp; omega) (fun j hj => by have := (hrow2.lt j hj).1; omega)
          · have := hg3.size; simp at this; omega
        case measure => rw [hrg3.left_eq, hrg.left_eq]; exact hlt
      · have HG := hid (hG.no hU hm ha)
        have hd : decide ((a : Int) ≤ last) = false := by simpa using ha
        have HRG := hid hrg2
        clear hG hat hlk hm ha
        go_wp2
        go_roundw
        case rel => exact ⟨_, cnt2, ss, HRG.out, by omega, hrow2, HG.out, hB2, hsz2⟩
        case measure => rw [HRG.out.left_eq, hrg.left_eq]; exact hlt
end Go.Proofs.Ythiicngnhnglfaa
