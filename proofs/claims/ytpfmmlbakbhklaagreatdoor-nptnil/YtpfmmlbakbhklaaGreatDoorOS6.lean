/- What Count, Owned and firstFree return, for every pool whose descriptors lie in memory and every number (of no pool: none): how many frames are of the kind, the numbers of the owner's frames, rising, in a new slice, the least free frame; the world's old blocks are as they were. -/
import Derived.Test.YtpfmmlbakbhklaaGreatDoorOS5
import Derived.Maps.AppendAt
import Derived.RangeFuncNested
import Derived.RangeFuncBound
import Derived.RangeFuncBox
import Derived.RangeFuncCalls
import Derived.RangeFuncLeaves
import Derived.Shelf.Abstract
import Derived.Shelf.RegionOpen
import Derived.OwnWalkIn
import Derived.TacticsInMore
import Derived.LoopNIn
import Derived.LoopIn
namespace Go.Proofs.YtpfmmlbakbhklaaGreatDoor.O
open Go.RowKit Go.Shelf

attribute [local go_sem] Oper.semAt_some

theorem heap4 (w : World) (A B C D : Obj) : ((((w.alloc A).alloc B).alloc C).alloc D).heap[w.heap.size]? = some A ∧ ((((w.alloc A).alloc B).alloc C).alloc D).heap[w.heap.size + 1]? = some B ∧ ((((w.alloc A).alloc B).alloc C).alloc D).heap[w.heap.size + 2]? = some C ∧ ((((w.alloc A).alloc B).alloc C).alloc D).heap[w.heap.size + 3]? = some D := by
  obtain ⟨a, b, c⟩ := three_new w A B C
  refine ⟨hkeep a _, hkeep b _, hkeep c _, ?_⟩
  have := heap_alloc_new (((w.alloc A).alloc B).alloc C) D
  simpa using this
theorem bfour (w : World) (A B C D : Obj) : Below w.heap.size w ((((w.alloc A).alloc B).alloc C).alloc D) := (bthree w A B C).alloc (by simp; omega) D
theorem kc_t {c n : Nat} {A B C : World} (h : Kc c n A B) (k : Kc c n B C) : Kc c n A C := h.trans k

set_option maxRecDepth 100000 in
set_option maxHeartbeats 2000000 in
theorem count_in {w : World} {p b : Nat} {L : List Ds} (hP : PP w p b L) (k : Int) :
    CallsIn Fence.wide 3 Tryz.prog 31 #[.pointer (some ⟨p, 0, none⟩), .int .i64 k] w fun e w' => e = .returned (.int .i64 (cK L k : Nat)) ∧ Below w.heap.size w w' := by
  have HP := hid hP
  have hl := hP.lt
  have hcn : (wh (isK k) L).length ≤ 4096 := Nat.le_trans (wh_len _ _) hP.top
  clear hP
  refine callsIn_of_wp_marks Tryz.func31 rfl trivial ?_ rfl
  simp only [Tryz.ntmps31, List.size_toArray, List.length_cons, List.length_nil, Nat.reduceAdd, Nat.reduceSub, Array.replicate_succ, Array.replicate_zero, List.push_toArray, List.append_toArray, List.nil_append, List.cons_append]
  gi_wp2_with fail
  refine ⟨trivial, (ofK_in _ _ _).mono ?_⟩
  rintro e w' ⟨rfl, rfl⟩
  gi_wp2_with fail
  refine ⟨trivial, (those_in _ _ _ _ _).mono ?_⟩
  rintro e w' ⟨rfl, rfl⟩
  gi_wp2
  have hB0 := bfour w (.cells #[.int .i64 0] 3) (.cells #[.int .i64 k] 3) (.cells #[.pointer (some ⟨p, 0, none⟩)] 32) (.cells #[.func (.func 110) #[] #[.pointer (some ⟨w.heap.size + 1, 0, none⟩)]] 133)
  obtain ⟨u0, u1, u2, u3⟩ := heap4 w (.cells #[.int .i64 0] 3) (.cells #[.int .i64 k] 3) (.cells #[.pointer (some ⟨p, 0, none⟩)] 32) (.cells #[.func (.func 110) #[] #[.pointer (some ⟨w.heap.size + 1, 0, none⟩)]] 133)
  have hs4 : ((((w.alloc (.cells #[.int .i64 0] 3)).alloc (.cells #[.int .i64 k] 3)).alloc (.cells #[.pointer (some ⟨p, 0, none⟩)] 32)).alloc (.cells #[.func (.func 110) #[] #[.pointer (some ⟨w.heap.size + 1, 0, none⟩)]] 133)).heap.size = w.heap.size + 4 := by simp
  have hP4 := HP.out.below hB0
  generalize hw4 : ((((w.alloc (.cells #[.int .i64 0] 3)).alloc (.cells #[.int .i64 k] 3)).alloc (.cells #[.pointer (some ⟨p, 0, none⟩)] 32)).alloc (.cells #[.func (.func 110) #[] #[.pointer (some ⟨w.heap.size + 1, 0, none⟩)]] 133)) = w4 at *
  refine wpIn_rangeFunc_ownG rfl (by decide) (gf := 109) (lb := #[.pointer (some ⟨w.heap.size + 2, 0, none⟩), .pointer (some ⟨w.heap.size + 3, 0, none⟩)]) rfl trivial (enters_of Tryz.func109 (by kernel_rfl) rfl)
    (thoseK_stops (3 - 1) (by decide) (w.heap.size + 2) (w.heap.size + 3) (w.heap.size + 1) w.heap.size p b L k w4 (cell_of u2 rfl) (cell_of u3 rfl) (cell_of u1 rfl) hP4 ⟨by omega, by omega, by omega, by omega⟩ (fun x : Nat => #[.int .i64 (x : Nat)]) (fun _ => rfl)) kc_t kcK_b (Below.refl _ _) (fun _ => rfl)
    (fun pre W => (Boxed W w.heap.size 3 (.int .i64 (pre.length : Nat))) ∧ Below w.heap.size w W)
    (fun _ _ _ => False)
    (OwnFrom.and (Own.from (fun s X Y row hs hg hr => hs.kept hg (fun e' => by
      obtain ⟨o, ho, hc⟩ := hr _ e'.symm
      rw [show X.heap[w.heap.size]? = _ from hs] at ho; cases ho; cases hc)) _) (ownFrom_below (Nat.le_refl _) (by rw [hs4]; omega)))
    (fun _ _ _ _ _ hs _ _ => hs)
    ⟨u0, hB0⟩
    (fun x => { tmps := #[.pointer (some ⟨p, 0, none⟩), .int .i64 k, undef, undef, .int .i64 0, .pointer (some ⟨w.heap.size, 0, none⟩), .pointer (some ⟨p, 0, none⟩), .int .i64 k, .func (.func 110) #[] #[.pointer (some ⟨w.heap.size + 1, 0, none⟩)], .func (.func 109) #[] #[.pointer (some ⟨w.heap.size + 2, 0, none⟩), .pointer (some ⟨w.heap.size + 3, 0, none⟩)], .int .i64 (x : Nat), undef, undef, undef], defers := [] }) ?assign ?body ?done ?stop
  case assign =>
    intro l x W K hK
    gi_wp2
    simpa using hK
  case body =>
    rintro l pre x W ⟨hv, hB⟩ hlt
    have hc := hv.cell
    have hf := hv.frozen
    have hn : pre.length < 4096 := by omega
    have hset := hv.set (.int .i64 ((pre.length : Int) + 1))
    have hq : (((pre ++ [x]).length : Nat) : Int) = (pre.length : Int) + 1 := by simp
    gi_wp2
    refine ⟨(KeepsOthers.setCell _ _ _).from _, Kc.setCell _ _ _ _ _, ?_, hB.setCell (p := ⟨w.heap.size, 0, none⟩) (Nat.le_refl _) _⟩
    rw [hq]
    exact hset
  case done =>
    rintro D ys W hD rfl ⟨hv, hB⟩ hK
    have hc := hv.cell
    gi_wp2
    refine ⟨by simp, .inl ⟨_, _, rfl, run_takeDeferred hK, ?_⟩⟩
    exact ⟨_, results_tmp rfl _ _ _, rfl, hB.trans (belowK_b (w := w) (Nat.le_refl _) W D _ _ (by omega) hK rfl rfl)⟩
  case stop =>
    rintro D c pre W _ _ h _
    exact h.elim
theorem count_at {w : World} {p b : Nat} {L : List Ds} (hP : PP w p b L) (k : Int) :
    Calls Tryz.prog 31 #[.pointer (some ⟨p, 0, none⟩), .int .i64 k] w fun e w' => e = .returned (.int .i64 (cK L k : Nat)) ∧ Below w.heap.size w w' :=
  callsIn_wide.1 (count_in hP k)

/-- The value that those hands back, of no pool. -/
theorem thoseK_stops_none (n : Nat) (hn : 1 ≤ n) (Bp Bm c : Nat) (p : Option Addr) (w : World) (hBp : w.cell? ⟨Bp, 0, none⟩ = some (.pointer p)) (hP : NoP w (.pointer p)) (encs : Nat → Array Value) :
    SeqStopsK Fence.wide n Tryz.prog 109 #[.pointer (some ⟨Bp, 0, none⟩), .pointer (some ⟨Bm, 0, none⟩)] encs (Kc c w.heap.size) (fun ys => ys = []) (fun _ => False) 0 w := fun l J _ W hW _ _ _ h0 =>
  (thoseK_none n hn l Bp Bm p J W ((hW.cell (p := ⟨Bp, 0, none⟩) (World.block_lt_of_cell? w ⟨Bp, 0, none⟩ hBp)).trans hBp) (hP.below hW) h0).mono fun _ _ ⟨a, b⟩ => ⟨a, .inl ⟨_, rfl, b⟩⟩

set_option maxRecDepth 100000 in
set_option maxHeartbeats 2000000 in
theorem count_none_in {w : World} {p : Option Addr} (hP : NoP w (.pointer p)) (k : Int) :
    CallsIn Fence.wide 3 Tryz.prog 31 #[.pointer p, .int .i64 k] w fun e w' => e = .returned (.int .i64 0) ∧ Below w.heap.size w w' := by
  have HP := hid hP
  clear hP
  refine callsIn_of_wp_marks Tryz.func31 rfl trivial ?_ rfl
  simp only [Tryz.ntmps31, List.size_toArray, List.length_cons, List.length_nil, Nat.reduceAdd, Nat.reduceSub, Array.replicate_succ, Array.replicate_zero, List.push_toArray, List.append_toArray, List.nil_append, List.cons_append]
  gi_wp2_with fail
  refine ⟨trivial, (ofK_in _ _ _).mono ?_⟩
  rintro e w' ⟨rfl, rfl⟩
  gi_wp2_with fail
  refine ⟨trivial, (those_in _ _ _ _ _).mono ?_⟩
  rintro e w' ⟨rfl, rfl⟩
  gi_wp2
  have hB0 := bfour w (.cells #[.int .i64 0] 3) (.cells #[.int .i64 k] 3) (.cells #[.pointer p] 32) (.cells #[.func (.func 110) #[] #[.pointer (some ⟨w.heap.size + 1, 0, none⟩)]] 133)
  obtain ⟨u0, u1, u2, u3⟩ := heap4 w (.cells #[.int .i64 0] 3) (.cells #[.int .i64 k] 3) (.cells #[.pointer p] 32) (.cells #[.func (.func 110) #[] #[.pointer (some ⟨w.heap.size + 1, 0, none⟩)]] 133)
  have hs4 : ((((w.alloc (.cells #[.int .i64 0] 3)).alloc (.cells #[.int .i64 k] 3)).alloc (.cells #[.pointer p] 32)).alloc (.cells #[.func (.func 110) #[] #[.pointer (some ⟨w.heap.size + 1, 0, none⟩)]] 133)).heap.size = w.heap.size + 4 := by simp
  have hP4 := HP.out.below hB0
  generalize hw4 : ((((w.alloc (.cells #[.int .i64 0] 3)).alloc (.cells #[.int .i64 k] 3)).alloc (.cells #[.pointer p] 32)).alloc (.cells #[.func (.func 110) #[] #[.pointer (some ⟨w.heap.size + 1, 0, none⟩)]] 133)) = w4 at *
  refine wpIn_rangeFunc_ownG rfl (by decide) (gf := 109) (lb := #[.pointer (some ⟨w.heap.size + 2, 0, none⟩), .pointer (some ⟨w.heap.size + 3, 0, none⟩)]) rfl trivial (enters_of Tryz.func109 (by kernel_rfl) rfl)
    (thoseK_stops_none (3 - 1) (by decide) (w.heap.size + 2) (w.heap.size + 3) w.heap.size p w4 (cell_of u2 rfl) hP4 (fun x : Nat => #[.int .i64 (x : Nat)])) kc_t kcK_b (Below.refl _ _) (fun _ => rfl)
    (fun pre W => (Boxed W w.heap.size 3 (.int .i64 (pre.length : Nat))) ∧ Below w.heap.size w W)
    (fun _ _ _ => False)
    (OwnFrom.and (Own.from (fun s X Y row hs hg hr => hs.kept hg (fun e' => by
      obtain ⟨o, ho, hc⟩ := hr _ e'.symm
      rw [show X.heap[w.heap.size]? = _ from hs] at ho; cases ho; cases hc)) _) (ownFrom_below (Nat.le_refl _) (by rw [hs4]; omega)))
    (fun _ _ _ _ _ hs _ _ => hs)
    ⟨u0, hB0⟩
    (fun x => { tmps := #[.pointer p, .int .i64 k, undef, undef, .int .i64 0, .pointer (some ⟨w.heap.size, 0, none⟩), .pointer p, .int .i64 k, .func (.func 110) #[] #[.pointer (some ⟨w.heap.size + 1, 0, none⟩)], .func (.func 109) #[] #[.pointer (some ⟨w.heap.size + 2, 0, none⟩), .pointer (some ⟨w.heap.size + 3, 0, none⟩)], .int .i64 (x : Nat), undef, undef, undef], defers := [] }) ?assign ?body ?done ?stop
  case assign =>
    intro l x W K hK
    gi_wp2
    simpa using hK
  case body =>
    rintro l pre x W _ hlt
    exact absurd hlt (by omega)
  case done =>
    rintro D ys W hD rfl ⟨hv, hB⟩ hK
    have hc := hv.cell
    gi_wp2
    refine ⟨by simp, .inl ⟨_, _, rfl, run_takeDeferred hK, ?_⟩⟩
    exact ⟨_, results_tmp rfl _ _ _, rfl, hB.trans (belowK_b (w := w) (Nat.le_refl _) W D _ _ (by omega) hK rfl rfl)⟩
  case stop =>
    rintro D c pre W _ _ h _
    exact h.elim
theorem count_none {w : World} {p : Option Addr} (hP : NoP w (.pointer p)) (k : Int) :
    Calls Tryz.prog 31 #[.pointer p, .int .i64 k] w fun e w' => e = .returned (.int .i64 0) ∧ Below w.heap.size w w' :=
  callsIn_wide.1 (count_none_in hP k)

theorem ownsRow_base {w : World} {m n : Nat} {e : TypeId} {size : Nat} {v : Value} {k : Nat} {xs : List Value} (h : w.ownsRow n e size v k xs) (hm : m ≤ n) : w.ownsRow m e size v k xs :=
  ⟨h.1, h.2.imp id fun ⟨g, cap, cur, a, b, c⟩ => ⟨g, cap, cur, a, Nat.le_trans hm b, c⟩⟩
/-- Behind an append onto a slice of one's own: what the walk owes. -/
theorem appK {W w1 : World} {n B : Nat} {t e : TypeId} {size : Nat} {v v' : Value} {k m : Nat} {xs ys : List Value} {tmp : Obj}
    (hv : Boxed W B t v) (hte : t ≠ e) (hrow : W.ownsRow n e size v k xs) (hn : n ≤ W.heap.size)
    (hown' : w1.ownsRow n e size v' m ys) (hgrow : (W.alloc tmp).grownBy w1 v.ownBlock) :
    Boxed w1 B t v ∧ Boxed (w1.setCell ⟨B, 0, none⟩ v') B t v' ∧ (w1.setCell ⟨B, 0, none⟩ v').ownsRow n e size v' m ys ∧ KeepsOthers W (w1.setCell ⟨B, 0, none⟩ v') ∧ Kc B n W (w1.setCell ⟨B, 0, none⟩ v') := by
  have hv1 : Boxed w1 B t v := (hv.alloc tmp).kept hgrow (hv.not_row hte hrow)
  refine ⟨hv1, hv1.set v', hown'.kept (grownBy_setCell' w1 B v') (.inr (hv1.not_row hte hown').symm), ?_, ?_⟩
  · refine ((KeepsOthers.alloc W tmp).trans (KeepsOthers.of_grownBy hgrow fun j o ej hj => ?_)).trans (KeepsOthers.setCell _ _ _)
    rcases (hrow.alloc tmp).2 with ⟨rfl, _⟩ | ⟨g, cap, cur, rfl, _, hgb, _⟩
    · simp [Value.ownBlock] at ej
    · obtain rfl : g = j := by simpa [Value.ownBlock] using ej
      rw [hgb] at hj; cases hj; rfl
  · refine (Kc.of_below (((Below.refl n W).alloc hn tmp).grown hgrow (by simp; omega) fun j ej => ?_)).trans (Kc.setCell _ _ _ _ _)
    rcases hrow.2 with ⟨rfl, _⟩ | ⟨g, cap, cur, rfl, hb, _, _⟩
    · simp [Value.ownBlock] at ej
    · obtain rfl : g = j := by simpa [Value.ownBlock] using ej
      exact hb
theorem info3 : (Tryz.prog.info? 3).map (fun i => (i.zero, i.size, i.bytes)) = some (some (.int .i64 0), 1, 8) := by kernel_rfl
def ints (l : List Nat) : List Value := l.map fun x => Value.int .i64 (x : Nat)
/-- The owner's frames. -/
abbrev oL (L : List Ds) (o : Int) : List Nat := wh (isO o) L

end Go.Proofs.YtpfmmlbakbhklaaGreatDoor.O
