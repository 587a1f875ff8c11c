/- What Count, Owned and firstFree return, for every pool whose descriptors lie in memory and every number (of no pool: none): how many frames are of the kind, the numbers of the owner's frames, rising, in a new slice, the least free frame; the world's old blocks are as they were. What Owned returns of no pool (nothing), and what firstFree and Take return and leave, for every pool whose descriptors lie in memory and every number: the same as the document's. Condition: the table of rules lies in its variable (for Take). What New, Of and Copy return, for every pool whose descriptors lie in memory and every number: a new pool of free frames, a frame's descriptor, another pool that stands there; the world's old blocks are as they were. Lists of frames' numbers that lie in memory, and what the comparison of two such lists (Ints) returns where they are the same. -/
import Derived.Test.YtpfmmlbakbhklaaGreatDoorBF
import Derived.Maps.AppendAt
import Derived.RangeFuncNested
import Derived.RangeFuncBound
import Derived.RangeFuncBox
import Derived.RangeFuncCalls
import Derived.RangeFuncLeaves
import Derived.Shelf.Abstract
import Derived.Shelf.RegionOpen
import Derived.OwnWalkIn
import Derived.TacticsInMore
import Derived.LoopNIn
import Derived.LoopIn
import Derived.Deep.OwnRows
import Derived.Deep.AppendLies
namespace Go.Proofs.YtpfmmlbakbhklaaGreatDoor.O
open Go.RowKit Go.Shelf

attribute [local go_sem] Oper.semAt_some

theorem heap4 (w : World) (A B C D : Obj) : ((((w.alloc A).alloc B).alloc C).alloc D).heap[w.heap.size]? = some A ∧ ((((w.alloc A).alloc B).alloc C).alloc D).heap[w.heap.size + 1]? = some B ∧ ((((w.alloc A).alloc B).alloc C).alloc D).heap[w.heap.size + 2]? = some C ∧ ((((w.alloc A).alloc B).alloc C).alloc D).heap[w.heap.size + 3]? = some D := by
  obtain ⟨a, b, c⟩ := three_new w A B C
  refine ⟨hkeep a _, hkeep b _, hkeep c _, ?_⟩
  have := heap_alloc_new (((w.alloc A).alloc B).alloc C) D
  simpa using this
theorem bfour (w : World) (A B C D : Obj) : Below w.heap.size w ((((w.alloc A).alloc B).alloc C).alloc D) := (bthree w A B C).alloc (by simp; omega) D
theorem kc_t {c n : Nat} {A B C : World} (h : Kc c n A B) (k : Kc c n B C) : Kc c n A C := h.trans k

set_option maxRecDepth 100000 in
set_option maxHeartbeats 2000000 in
theorem count_in {w : World} {p b : Nat} {L : List Ds} (hP : PP w p b L) (k : Int) :
    CallsIn Fence.wide 3 Tryz.prog 31 #[.pointer (some ⟨p, 0, none⟩), .int .i64 k] w fun e w' => e = .returned (.int .i64 (cK L k : Nat)) ∧ Below w.heap.size w w' := by
  have HP := hid hP
  have hl := hP.lt
  have hcn : (wh (isK k) L).length ≤ 4096 := Nat.le_trans (wh_len _ _) hP.top
  clear hP
  refine callsIn_of_wp_marks Tryz.func31 rfl trivial ?_ rfl
  simp only [Tryz.ntmps31, List.size_toArray, List.length_cons, List.length_nil, Nat.reduceAdd, Nat.reduceSub, Array.replicate_succ, Array.replicate_zero, List.push_toArray, List.append_toArray, List.nil_append, List.cons_append]
  gi_wp2_with fail
  refine ⟨trivial, (ofK_in _ _ _).mono ?_⟩
  rintro e w' ⟨rfl, rfl⟩
  gi_wp2_with fail
  refine ⟨trivial, (those_in _ _ _ _ _).mono ?_⟩
  rintro e w' ⟨rfl, rfl⟩
  gi_wp2
  have hB0 := bfour w (.cells #[.int .i64 0] 3) (.cells #[.int .i64 k] 3) (.cells #[.pointer (some ⟨p, 0, none⟩)] 32) (.cells #[.func (.func 110) #[] #[.pointer (some ⟨w.heap.size + 1, 0, none⟩)]] 133)
  obtain ⟨u0, u1, u2, u3⟩ := heap4 w (.cells #[.int .i64 0] 3) (.cells #[.int .i64 k] 3) (.cells #[.pointer (some ⟨p, 0, none⟩)] 32) (.cells #[.func (.func 110) #[] #[.pointer (some ⟨w.heap.size + 1, 0, none⟩)]] 133)
  have hs4 : ((((w.alloc (.cells #[.int .i64 0] 3)).alloc (.cells #[.int .i64 k] 3)).alloc (.cells #[.pointer (some ⟨p, 0, none⟩)] 32)).alloc (.cells #[.func (.func 110) #[] #[.pointer (some ⟨w.heap.size + 1, 0, none⟩)]] 133)).heap.size = w.heap.size + 4 := by simp
  have hP4 := HP.out.below hB0
  generalize hw4 : ((((w.alloc (.cells #[.int .i64 0] 3)).alloc (.cells #[.int .i64 k] 3)).alloc (.cells #[.pointer (some ⟨p, 0, none⟩)] 32)).alloc (.cells #[.func (.func 110) #[] #[.pointer (some ⟨w.heap.size + 1, 0, none⟩)]] 133)) = w4 at *
  refine wpIn_rangeFunc_ownG rfl (by decide) (gf := 109) (lb := #[.pointer (some ⟨w.heap.size + 2, 0, none⟩), .pointer (some ⟨w.heap.size + 3, 0, none⟩)]) rfl trivial (enters_of Tryz.func109 (by kernel_rfl) rfl)
    (thoseK_stops (3 - 1) (by decide) (w.heap.size + 2) (w.heap.size + 3) (w.heap.size + 1) w.heap.size p b L k w4 (cell_of u2 rfl) (cell_of u3 rfl) (cell_of u1 rfl) hP4 ⟨by omega, by omega, by omega, by omega⟩ (fun x : Nat => #[.int .i64 (x : Nat)]) (fun _ => rfl)) kc_t kcK_b (Below.refl _ _) (fun _ => rfl)
    (fun pre W => (Boxed W w.heap.size 3 (.int .i64 (pre.length : Nat))) ∧ Below w.heap.size w W)
    (fun _ _ _ => False)
    (OwnFrom.and (Own.from (fun s X Y row hs hg hr => hs.kept hg (fun e' => by
      obtain ⟨o, ho, hc⟩ := hr _ e'.symm
      rw [show X.heap[w.heap.size]? = _ from hs] at ho; cases ho; cases hc)) _) (ownFrom_below (Nat.le_refl _) (by rw [hs4]; omega)))
    (fun _ _ _ _ _ hs _ _ => hs)
    ⟨u0, hB0⟩
    (fun x => { tmps := #[.pointer (some ⟨p, 0, none⟩), .int .i64 k, undef, undef, .int .i64 0, .pointer (some ⟨w.heap.size, 0, none⟩), .pointer (some ⟨p, 0, none⟩), .int .i64 k, .func (.func 110) #[] #[.pointer (some ⟨w.heap.size + 1, 0, none⟩)], .func (.func 109) #[] #[.pointer (some ⟨w.heap.size + 2, 0, none⟩), .pointer (some ⟨w.heap.size + 3, 0, none⟩)], .int .i64 (x : Nat), undef, undef, undef], defers := [] }) ?assign ?body ?done ?stop
  case assign =>
    intro l x W K hK
    gi_wp2
    simpa using hK
  case body =>
    rintro l pre x W ⟨hv, hB⟩ hlt
    have hc := hv.cell
    have hf := hv.frozen
    have hn : pre.length < 4096 := by omega
    have hset := hv.set (.int .i64 ((pre.length : Int) + 1))
    have hq : (((pre ++ [x]).length : Nat) : Int) = (pre.length : Int) + 1 := by simp
    gi_wp2
    refine ⟨(KeepsOthers.setCell _ _ _).from _, Kc.setCell _ _ _ _ _, ?_, hB.setCell (p := ⟨w.heap.size, 0, none⟩) (Nat.le_refl _) _⟩
    rw [hq]
    exact hset
  case done =>
    rintro D ys W hD rfl ⟨hv, hB⟩ hK
    have hc := hv.cell
    gi_wp2
    refine ⟨by simp, .inl ⟨_, _, rfl, run_takeDeferred hK, ?_⟩⟩
    exact ⟨_, results_tmp rfl _ _ _, rfl, hB.trans (belowK_b (w := w) (Nat.le_refl _) W D _ _ (by omega) hK rfl rfl)⟩
  case stop =>
    rintro D c pre W _ _ h _
    exact h.elim
theorem count_at {w : World} {p b : Nat} {L : List Ds} (hP : PP w p b L) (k : Int) :
    Calls Tryz.prog 31 #[.pointer (some ⟨p, 0, none⟩), .int .i64 k] w fun e w' => e = .returned (.int .i64 (cK L k : Nat)) ∧ Below w.heap.size w w' :=
  callsIn_wide.1 (count_in hP k)

/-- The value that those hands back, of no pool. -/
theorem thoseK_stops_none (n : Nat) (hn : 1 ≤ n) (Bp Bm c : Nat) (p : Option Addr) (w : World) (hBp : w.cell? ⟨Bp, 0, none⟩ = some (.pointer p)) (hP : NoP w (.pointer p)) (encs : Nat → Array Value) :
    SeqStopsK Fence.wide n Tryz.prog 109 #[.pointer (some ⟨Bp, 0, none⟩), .pointer (some ⟨Bm, 0, none⟩)] encs (Kc c w.heap.size) (fun ys => ys = []) (fun _ => False) 0 w := fun l J _ W hW _ _ _ h0 =>
  (thoseK_none n hn l Bp Bm p J W ((hW.cell (p := ⟨Bp, 0, none⟩) (World.block_lt_of_cell? w ⟨Bp, 0, none⟩ hBp)).trans hBp) (hP.below hW) h0).mono fun _ _ ⟨a, b⟩ => ⟨a, .inl ⟨_, rfl, b⟩⟩

set_option maxRecDepth 100000 in
set_option maxHeartbeats 2000000 in
theorem count_none_in {w : World} {p : Option Addr} (hP : NoP w (.pointer p)) (k : Int) :
    CallsIn Fence.wide 3 Tryz.prog 31 #[.pointer p, .int .i64 k] w fun e w' => e = .returned (.int .i64 0) ∧ Below w.heap.size w w' := by
  have HP := hid hP
  clear hP
  refine callsIn_of_wp_marks Tryz.func31 rfl trivial ?_ rfl
  simp only [Tryz.ntmps31, List.size_toArray, List.length_cons, List.length_nil, Nat.reduceAdd, Nat.reduceSub, Array.replicate_succ, Array.replicate_zero, List.push_toArray, List.append_toArray, List.nil_append, List.cons_append]
  gi_wp2_with fail
  refine ⟨trivial, (ofK_in _ _ _).mono ?_⟩
  rintro e w' ⟨rfl, rfl⟩
  gi_wp2_with fail
  refine ⟨trivial, (those_in _ _ _ _ _).mono ?_⟩
  rintro e w' ⟨rfl, rfl⟩
  gi_wp2
  have hB0 := bfour w (.cells #[.int .i64 0] 3) (.cells #[.int .i64 k] 3) (.cells #[.pointer p] 32) (.cells #[.func (.func 110) #[] #[.pointer (some ⟨w.heap.size + 1, 0, none⟩)]] 133)
  obtain ⟨u0, u1, u2, u3⟩ := heap4 w (.cells #[.int .i64 0] 3) (.cells #[.int .i64 k] 3) (.cells #[.pointer p] 32) (.cells #[.func (.func 110) #[] #[.pointer (some ⟨w.heap.size + 1, 0, none⟩)]] 133)
  have hs4 : ((((w.alloc (.cells #[.int .i64 0] 3)).alloc (.cells #[.int .i64 k] 3)).alloc (.cells #[.pointer p] 32)).alloc (.cells #[.func (.func 110) #[] #[.pointer (some ⟨w.heap.size + 1, 0, none⟩)]] 133)).heap.size = w.heap.size + 4 := by simp
  have hP4 := HP.out.below hB0
  generalize hw4 : ((((w.alloc (.cells #[.int .i64 0] 3)).alloc (.cells #[.int .i64 k] 3)).alloc (.cells #[.pointer p] 32)).alloc (.cells #[.func (.func 110) #[] #[.pointer (some ⟨w.heap.size + 1, 0, none⟩)]] 133)) = w4 at *
  refine wpIn_rangeFunc_ownG rfl (by decide) (gf := 109) (lb := #[.pointer (some ⟨w.heap.size + 2, 0, none⟩), .pointer (some ⟨w.heap.size + 3, 0, none⟩)]) rfl trivial (enters_of Tryz.func109 (by kernel_rfl) rfl)
    (thoseK_stops_none (3 - 1) (by decide) (w.heap.size + 2) (w.heap.size + 3) w.heap.size p w4 (cell_of u2 rfl) hP4 (fun x : Nat => #[.int .i64 (x : Nat)])) kc_t kcK_b (Below.refl _ _) (fun _ => rfl)
    (fun pre W => (Boxed W w.heap.size 3 (.int .i64 (pre.length : Nat))) ∧ Below w.heap.size w W)
    (fun _ _ _ => False)
    (OwnFrom.and (Own.from (fun s X Y row hs hg hr => hs.kept hg (fun e' => by
      obtain ⟨o, ho, hc⟩ := hr _ e'.symm
      rw [show X.heap[w.heap.size]? = _ from hs] at ho; cases ho; cases hc)) _) (ownFrom_below (Nat.le_refl _) (by rw [hs4]; omega)))
    (fun _ _ _ _ _ hs _ _ => hs)
    ⟨u0, hB0⟩
    (fun x => { tmps := #[.pointer p, .int .i64 k, undef, undef, .int .i64 0, .pointer (some ⟨w.heap.size, 0, none⟩), .pointer p, .int .i64 k, .func (.func 110) #[] #[.pointer (some ⟨w.heap.size + 1, 0, none⟩)], .func (.func 109) #[] #[.pointer (some ⟨w.heap.size + 2, 0, none⟩), .pointer (some ⟨w.heap.size + 3, 0, none⟩)], .int .i64 (x : Nat), undef, undef, undef], defers := [] }) ?assign ?body ?done ?stop
  case assign =>
    intro l x W K hK
    gi_wp2
    simpa using hK
  case body =>
    rintro l pre x W _ hlt
    exact absurd hlt (by omega)
  case done =>
    rintro D ys W hD rfl ⟨hv, hB⟩ hK
    have hc := hv.cell
    gi_wp2
    refine ⟨by simp, .inl ⟨_, _, rfl, run_takeDeferred hK, ?_⟩⟩
    exact ⟨_, results_tmp rfl _ _ _, rfl, hB.trans (belowK_b (w := w) (Nat.le_refl _) W D _ _ (by omega) hK rfl rfl)⟩
  case stop =>
    rintro D c pre W _ _ h _
    exact h.elim
theorem count_none {w : World} {p : Option Addr} (hP : NoP w (.pointer p)) (k : Int) :
    Calls Tryz.prog 31 #[.pointer p, .int .i64 k] w fun e w' => e = .returned (.int .i64 0) ∧ Below w.heap.size w w' :=
  callsIn_wide.1 (count_none_in hP k)

theorem ownsRow_base {w : World} {m n : Nat} {e : TypeId} {size : Nat} {v : Value} {k : Nat} {xs : List Value} (h : w.ownsRow n e size v k xs) (hm : m ≤ n) : w.ownsRow m e size v k xs :=
  ⟨h.1, h.2.imp id fun ⟨g, cap, cur, a, b, c⟩ => ⟨g, cap, cur, a, Nat.le_trans hm b, c⟩⟩
/-- Behind an append onto a slice of one's own: what the walk owes. -/
theorem appK {W w1 : World} {n B : Nat} {t e : TypeId} {size : Nat} {v v' : Value} {k m : Nat} {xs ys : List Value} {tmp : Obj}
    (hv : Boxed W B t v) (hte : t ≠ e) (hrow : W.ownsRow n e size v k xs) (hn : n ≤ W.heap.size)
    (hown' : w1.ownsRow n e size v' m ys) (hgrow : (W.alloc tmp).grownBy w1 v.ownBlock) :
    Boxed w1 B t v ∧ Boxed (w1.setCell ⟨B, 0, none⟩ v') B t v' ∧ (w1.setCell ⟨B, 0, none⟩ v').ownsRow n e size v' m ys ∧ KeepsOthers W (w1.setCell ⟨B, 0, none⟩ v') ∧ Kc B n W (w1.setCell ⟨B, 0, none⟩ v') := by
  have hv1 : Boxed w1 B t v := (hv.alloc tmp).kept hgrow (hv.not_row hte hrow)
  refine ⟨hv1, hv1.set v', hown'.kept (grownBy_setCell' w1 B v') (.inr (hv1.not_row hte hown').symm), ?_, ?_⟩
  · refine ((KeepsOthers.alloc W tmp).trans (KeepsOthers.of_grownBy hgrow fun j o ej hj => ?_)).trans (KeepsOthers.setCell _ _ _)
    rcases (hrow.alloc tmp).2 with ⟨rfl, _⟩ | ⟨g, cap, cur, rfl, _, hgb, _⟩
    · simp [Value.ownBlock] at ej
    · obtain rfl : g = j := by simpa [Value.ownBlock] using ej
      rw [hgb] at hj; cases hj; rfl
  · refine (Kc.of_below (((Below.refl n W).alloc hn tmp).grown hgrow (by simp; omega) fun j ej => ?_)).trans (Kc.setCell _ _ _ _ _)
    rcases hrow.2 with ⟨rfl, _⟩ | ⟨g, cap, cur, rfl, hb, _, _⟩
    · simp [Value.ownBlock] at ej
    · obtain rfl : g = j := by simpa [Value.ownBlock] using ej
      exact hb
theorem info3 : (Tryz.prog.info? 3).map (fun i => (i.zero, i.size, i.bytes)) = some (some (.int .i64 0), 1, 8) := by kernel_rfl
def ints (l : List Nat) : List Value := l.map fun x => Value.int .i64 (x : Nat)
/-- The owner's frames. -/
abbrev oL (L : List Ds) (o : Int) : List Nat := wh (isO o) L

end Go.Proofs.YtpfmmlbakbhklaaGreatDoor.O
namespace Go.Proofs.YtpfmmlbakbhklaaGreatDoor.O
open Go.RowKit Go.Shelf

attribute [local go_sem] Oper.semAt_some

/-- The value that those hands back, of no pool. -/
theorem thoseO_stops_none (n : Nat) (hn : 1 ≤ n) (Bp Bm c : Nat) (p : Option Addr) (w : World) (hBp : w.cell? ⟨Bp, 0, none⟩ = some (.pointer p)) (hP : NoP w (.pointer p)) (encs : Nat → Array Value) :
    SeqStopsK Fence.wide n Tryz.prog 109 #[.pointer (some ⟨Bp, 0, none⟩), .pointer (some ⟨Bm, 0, none⟩)] encs (Kc c w.heap.size) (fun ys => ys = []) (fun _ => False) 0 w := fun l J _ W hW _ _ _ h0 =>
  (thoseO_none n hn l Bp Bm p J W ((hW.cell (p := ⟨Bp, 0, none⟩) (World.block_lt_of_cell? w ⟨Bp, 0, none⟩ hBp)).trans hBp) (hP.below hW) h0).mono fun _ _ ⟨a, b⟩ => ⟨a, .inl ⟨_, rfl, b⟩⟩

theorem heap5 (w : World) (A B C D E : Obj) : (((((w.alloc A).alloc B).alloc C).alloc D).alloc E).heap[w.heap.size]? = some A ∧ (((((w.alloc A).alloc B).alloc C).alloc D).alloc E).heap[w.heap.size + 1]? = some B ∧ (((((w.alloc A).alloc B).alloc C).alloc D).alloc E).heap[w.heap.size + 2]? = some C ∧ (((((w.alloc A).alloc B).alloc C).alloc D).alloc E).heap[w.heap.size + 3]? = some D ∧ (((((w.alloc A).alloc B).alloc C).alloc D).alloc E).heap[w.heap.size + 4]? = some E := by
  obtain ⟨a, b, c, d⟩ := heap4 w A B C D
  refine ⟨hkeep a _, hkeep b _, hkeep c _, hkeep d _, ?_⟩
  have := heap_alloc_new ((((w.alloc A).alloc B).alloc C).alloc D) E
  simpa using this
/-- The least free frame, if there is one. -/
def ff : List Nat → Value | [] => .tuple #[.int .i64 0, .bool false] | f :: _ => .tuple #[.int .i64 (f : Nat), .bool true]

set_option maxRecDepth 100000 in
set_option maxHeartbeats 2000000 in
theorem first_in {w : World} {p b : Nat} {L : List Ds} (hP : PP w p b L) :
    CallsIn Fence.wide 3 Tryz.prog 150 #[.pointer (some ⟨p, 0, none⟩)] w fun e w' => e = .returned (ff (fr L)) ∧ Below w.heap.size w w' := by
  have HP := hid hP
  have hl := hP.lt
  clear hP
  refine callsIn_of_wp_marks Tryz.func150 rfl trivial ?_ rfl
  simp only [Tryz.ntmps150, List.size_toArray, List.length_cons, List.length_nil, Nat.reduceAdd, Nat.reduceSub, Array.replicate_succ, Array.replicate_zero, List.push_toArray, List.append_toArray, List.nil_append, List.cons_append]
  gi_wp2_with fail
  refine ⟨trivial, (ofK_in _ _ _).mono ?_⟩
  rintro e w' ⟨rfl, rfl⟩
  gi_wp2_with fail
  refine ⟨trivial, (those_in _ _ _ _ _).mono ?_⟩
  rintro e w' ⟨rfl, rfl⟩
  gi_wp2
  have hB0 := (bfour w (.cells #[.int .i64 0] 3) (.cells #[.bool false] 4) (.cells #[.int .i64 0] 3) (.cells #[.pointer (some ⟨p, 0, none⟩)] 32)).alloc (by simp; omega) (.cells #[.func (.func 110) #[] #[.pointer (some ⟨w.heap.size + 2, 0, none⟩)]] 133)
  obtain ⟨u0, u1, u2, u3, u4⟩ := heap5 w (.cells #[.int .i64 0] 3) (.cells #[.bool false] 4) (.cells #[.int .i64 0] 3) (.cells #[.pointer (some ⟨p, 0, none⟩)] 32) (.cells #[.func (.func 110) #[] #[.pointer (some ⟨w.heap.size + 2, 0, none⟩)]] 133)
  have hs4 : (((((w.alloc (.cells #[.int .i64 0] 3)).alloc (.cells #[.bool false] 4)).alloc (.cells #[.int .i64 0] 3)).alloc (.cells #[.pointer (some ⟨p, 0, none⟩)] 32)).alloc (.cells #[.func (.func 110) #[] #[.pointer (some ⟨w.heap.size + 2, 0, none⟩)]] 133)).heap.size = w.heap.size + 5 := by simp
  have hP4 := HP.out.below hB0
  generalize hw4 : (((((w.alloc (.cells #[.int .i64 0] 3)).alloc (.cells #[.bool false] 4)).alloc (.cells #[.int .i64 0] 3)).alloc (.cells #[.pointer (some ⟨p, 0, none⟩)] 32)).alloc (.cells #[.func (.func 110) #[] #[.pointer (some ⟨w.heap.size + 2, 0, none⟩)]] 133)) = w4 at *
  have kept : ∀ (B : Nat) (t : TypeId) (v : Value) (X Y : World) (row : Option Nat), Boxed X B t v → X.grownBy Y row → (∀ r, row = some r → ∃ o : Obj, X.heap[r]? = some o ∧ o.isCells = false) → Boxed Y B t v := fun B t v X Y row hs hg hr => hs.kept hg (fun e' => by
      obtain ⟨o, ho, hc⟩ := hr _ e'.symm
      rw [show X.heap[B]? = _ from hs] at ho; cases ho; cases hc)
  refine wpIn_rangeFunc_ownG rfl (by decide) (gf := 109) (lb := #[.pointer (some ⟨w.heap.size + 3, 0, none⟩), .pointer (some ⟨w.heap.size + 4, 0, none⟩)]) rfl trivial (enters_of Tryz.func109 (by kernel_rfl) rfl)
    (thoseK_stops (3 - 1) (by decide) (w.heap.size + 3) (w.heap.size + 4) (w.heap.size + 2) w.heap.size p b L 0 w4 (cell_of u3 rfl) (cell_of u4 rfl) (cell_of u2 rfl) hP4 ⟨by omega, by omega, by omega, by omega⟩ (fun x : Nat => #[.int .i64 (x : Nat)]) (fun _ => rfl)) kc_t kcK_b (Below.refl _ _) (fun _ => rfl)
    (fun pre W => (pre = [] ∧ Boxed W w.heap.size 3 (.int .i64 0) ∧ Boxed W (w.heap.size + 1) 4 (.bool false)) ∧ Below w.heap.size w W)
    (fun c pre W => (c = .ret ∧ ∃ x : Nat, pre = [x] ∧ Boxed W w.heap.size 3 (.int .i64 (x : Nat)) ∧ Boxed W (w.heap.size + 1) 4 (.bool true)) ∧ Below w.heap.size w W)
    (OwnFrom.and (Own.from (fun s X Y row hs hg hr => ⟨hs.1, kept _ _ _ _ _ _ hs.2.1 hg hr, kept _ _ _ _ _ _ hs.2.2 hg hr⟩) _) (ownFrom_below (Nat.le_refl _) (by rw [hs4]; omega)))
    (fun c => OwnFrom.and (Own.from (fun s X Y row ⟨h1, x, h2, h3, h4⟩ hg hr => ⟨h1, x, h2, kept _ _ _ _ _ _ h3 hg hr, kept _ _ _ _ _ _ h4 hg hr⟩) _) (ownFrom_below (Nat.le_refl _) (by rw [hs4]; omega)))
    ⟨⟨rfl, u0, u1⟩, hB0⟩
    (fun x => { tmps := #[.pointer (some ⟨p, 0, none⟩), undef, .pointer (some ⟨w.heap.size, 0, none⟩), .pointer (some ⟨w.heap.size + 1, 0, none⟩), .int .i64 (x : Nat), .pointer (some ⟨p, 0, none⟩), .func (.func 110) #[] #[.pointer (some ⟨w.heap.size + 2, 0, none⟩)], .func (.func 109) #[] #[.pointer (some ⟨w.heap.size + 3, 0, none⟩), .pointer (some ⟨w.heap.size + 4, 0, none⟩)], .int .i64 (x : Nat), undef], defers := [] }) ?assign ?body ?done ?stop
  case assign =>
    intro l x W K hK
    gi_wp2
    simpa using hK
  case body =>
    rintro l pre x W ⟨⟨rfl, hv, hv2⟩, hB⟩ hlt
    have hc := hv.cell
    have hf := hv.frozen
    have hc2 := hv2.cell
    have hf2 := hv2.frozen
    have h1 := (hv.set (.int .i64 (x : Nat))).kept (row := some (w.heap.size + 1)) (grownBy_setCell' _ (w.heap.size + 1) (.bool true)) (by simp)
    have h2 := (hv2.kept (row := some w.heap.size) (grownBy_setCell' W w.heap.size (.int .i64 (x : Nat))) (by simp)).set (.bool true)
    gi_wp2
    exact ⟨((KeepsOthers.setCell _ _ _).trans (KeepsOthers.setCell _ _ _)).from _, ⟨rfl, x, rfl, h1, h2⟩, (hB.setCell (p := ⟨w.heap.size, 0, none⟩) (Nat.le_refl _) _).setCell (p := ⟨w.heap.size + 1, 0, none⟩) (by simp) _⟩
  case done =>
    rintro D ys W hD rfl ⟨⟨h0, hv, hv2⟩, hB⟩ hK
    have hc := hv.cell
    have hf := hv.frozen
    have hc2 := hv2.cell
    have hf2 := hv2.frozen
    have h1 := (hv.set (.int .i64 0)).kept (row := some (w.heap.size + 1)) (grownBy_setCell' _ (w.heap.size + 1) (.bool false)) (by simp)
    have h2 := (hv2.kept (row := some w.heap.size) (grownBy_setCell' W w.heap.size (.int .i64 0)) (by simp)).set (.bool false)
    have hK' := ((KeepsOthers.setCell W ⟨w.heap.size, 0, none⟩ (.int .i64 0)).trans (KeepsOthers.setCell _ ⟨w.heap.size + 1, 0, none⟩ (.bool false))).same D _ hK rfl
    have hB' := (hB.setCell (p := ⟨w.heap.size, 0, none⟩) (Nat.le_refl _) (.int .i64 0)).setCell (p := ⟨w.heap.size + 1, 0, none⟩) (by simp) (.bool false)
    gi_wp2
    refine ⟨by simp, .inl ⟨_, _, rfl, run_takeDeferred hK', ?_⟩⟩
    have hc5 := (kept _ _ _ _ _ _ h1 (grownBy_putObj' _ D (.deferred none)) (fun r e => by cases e; exact ⟨_, hK', rfl⟩)).cell
    have hc6 := (kept _ _ _ _ _ _ h2 (grownBy_putObj' _ D (.deferred none)) (fun r e => by cases e; exact ⟨_, hK', rfl⟩)).cell
    refine ⟨.tuple #[.int .i64 0, .bool false], ?_, by rw [show fr L = [] from h0]; rfl, hB'.trans (belowK_b (w := w) (Nat.le_refl _) _ D _ _ (by omega) hK' rfl rfl)⟩
    simp [results, Tryz.f150, go_sem, hc5, hc6]
  case stop =>
    rintro D c pre W hD hpre ⟨⟨rfl, x, rfl, hv, hv2⟩, hB⟩ hK
    gi_wp2
    refine ⟨by simp, .inl ⟨_, _, rfl, run_takeDeferred hK, ?_⟩⟩
    have hc5 := (kept _ _ _ _ _ _ hv (grownBy_putObj' _ D (.deferred none)) (fun r e => by cases e; exact ⟨_, hK, rfl⟩)).cell
    have hc6 := (kept _ _ _ _ _ _ hv2 (grownBy_putObj' _ D (.deferred none)) (fun r e => by cases e; exact ⟨_, hK, rfl⟩)).cell
    obtain ⟨q, hq⟩ := hpre
    refine ⟨.tuple #[.int .i64 (x : Nat), .bool true], ?_, by rw [show fr L = x :: q from hq.symm]; rfl, hB.trans (belowK_b (w := w) (Nat.le_refl _) W D _ _ (by omega) hK rfl rfl)⟩
    simp [results, Tryz.f150, go_sem, hc5, hc6]
theorem first_at {w : World} {p b : Nat} {L : List Ds} (hP : PP w p b L) :
    Calls Tryz.prog 150 #[.pointer (some ⟨p, 0, none⟩)] w fun e w' => e = .returned (ff (fr L)) ∧ Below w.heap.size w w' :=
  callsIn_wide.1 (first_in hP)

set_option maxHeartbeats 1000000 in
theorem take_at {w : World} {p b : Nat} {L : List Ds} (h : PP w p b L) (k o : Int) (hT : Tab w) :
    Calls Tryz.prog 111 #[.pointer (some ⟨p, 0, none⟩), .int .i64 k, .int .i64 o] w fun x w' => x = .returned (.tuple #[.int .i64 (kF L k o), .int .i64 (kE L k o)]) ∧ PP w' p b (kL L k o) ∧ Bt b w w' := by
  have HP := hid h
  have HT := hid hT
  have hC := first_at h
  unfold kF kE kL
  cases hfr : fr L with
  | nil =>
    rw [hfr] at hC
    have HC := hid hC
    clear hC h hT hfr
    go_enter Tryz.func111, Tryz.ntmps111
    go_wp2_with fail
    refine (isNone_no HP.out).mono ?_
    rintro x w1 ⟨rfl, rfl⟩
    go_wp2_with fail
    refine HC.out.mono ?_
    rintro x w2 ⟨rfl, hB⟩
    have HB := hid hB
    clear hB
    unfold ff
    (try simp only [])
    go_wp2
    go_ret2
    exact ⟨rfl, HP.out.below HB.out, Bt.of_below HB.out⟩
  | cons f q =>
    rw [hfr] at hC
    have HC := hid hC
    have HF : Hid (f < L.length) := (wh_mem.1 (by rw [hfr]; exact List.mem_cons_self : f ∈ fr L)).1
    clear hC h hT hfr
    dsimp only
    by_cases hz : tE L (f : Nat) k o = 0
    · go_enter Tryz.func111, Tryz.ntmps111
      go_wp2_with fail
      refine (isNone_no HP.out).mono ?_
      rintro x w1 ⟨rfl, rfl⟩
      go_wp2_with fail
      refine HC.out.mono ?_
      rintro x w2 ⟨rfl, hB⟩
      have HB := hid hB
      clear hB
      unfold ff
      (try simp only [])
      go_wp2_with fail
      refine (turn_at (HP.out.below HB.out) _ _ _ (HT.out.go HB.out)).mono ?_
      rintro x w3 ⟨rfl, hP3, hB3⟩
      rw [hz]
      go_wp2
      go_ret2
      refine ⟨rfl, hP3, (Bt.of_below HB.out).trans hB3⟩
    · have hz' : (tE L (f : Nat) k o != 0) = true := by simpa using hz
      go_enter Tryz.func111, Tryz.ntmps111
      go_wp2_with fail
      refine (isNone_no HP.out).mono ?_
      rintro x w1 ⟨rfl, rfl⟩
      go_wp2_with fail
      refine HC.out.mono ?_
      rintro x w2 ⟨rfl, hB⟩
      have HB := hid hB
      clear hB
      unfold ff
      (try simp only [])
      go_wp2_with fail
      refine (turn_at (HP.out.below HB.out) _ _ _ (HT.out.go HB.out)).mono ?_
      rintro x w3 ⟨rfl, hP3, hB3⟩
      go_wp2
      go_ret2
      refine ⟨rfl, hP3, (Bt.of_below HB.out).trans hB3⟩
set_option maxHeartbeats 1000000 in
theorem take_none {w : World} {v : Value} (h : NoP w v) (k o : Int) :
    Calls Tryz.prog 111 #[v, .int .i64 k, .int .i64 o] w fun x w' => x = .returned (.tuple #[.int .i64 0, .int .i64 10]) ∧ w' = w := by
  have H2 := hid h
  clear h
  go_enter Tryz.func111, Tryz.ntmps111
  go_wp2_with fail
  refine (isNone_yes H2.out).mono ?_
  rintro x w1 ⟨rfl, rfl⟩
  go_wp2
  go_ret2
  exact ⟨rfl, rfl⟩
end Go.Proofs.YtpfmmlbakbhklaaGreatDoor.O
namespace Go.Proofs.YtpfmmlbakbhklaaGreatDoor.O
open Go.RowKit

theorem info64 : (Tryz.prog.info? 64).map (fun i => (i.zero, i.size, i.bytes)) = some (some (.agg #[.int .i64 0, .int .i64 0, .int .i64 0, .int .i64 0]), 4, 32) := by kernel_rfl
theorem info91 : (Tryz.prog.info? 91).map (fun i => (i.zero, i.size, i.bytes)) = some (some (.agg #[.int .i64 0, .int .i64 0, .int .i64 0, .int .i64 0]), 4, 32) := by kernel_rfl
theorem made4 (n : Nat) : madeCells #[(.int .i64 0 : Value), .int .i64 0, .int .i64 0, .int .i64 0] (n * 4) = ⟨fl (List.replicate n zd)⟩ := by
  apply Array.toList_inj.1
  rw [fl_zero]
  apply List.ext_getElem
  · simp [madeCells]
  · intro i h1 h2
    have : ∀ j : Nat, j < 4 → (#[(.int .i64 0 : Value), .int .i64 0, .int .i64 0, .int .i64 0])[j]! = .int .i64 0 := by
      intro j hj
      match j, hj with
      | 0, _ => rfl
      | 1, _ => rfl
      | 2, _ => rfl
      | 3, _ => rfl
    simp only [madeCells, Array.toList_map, List.getElem_map, List.getElem_replicate, Array.getElem_toList, Array.getElem_range]
    exact this _ (Nat.mod_lt _ (by decide))
/-- Behind New: the pool. -/
theorem isP_new (t u : TypeId) (w : World) (n : Nat) (h1 : 1 ≤ n) (h2 : n ≤ 4096) :
    IsP t u ((w.alloc (.cells (madeCells #[(.int .i64 0 : Value), .int .i64 0, .int .i64 0, .int .i64 0] (n * 4)) u)).alloc (.cells #[.slice (some ⟨w.heap.size, 0, none⟩) n n] t)) (w.heap.size + 1) w.heap.size (List.replicate n zd) := by
  obtain ⟨a, b⟩ := two_new w (.cells (madeCells #[(.int .i64 0 : Value), .int .i64 0, .int .i64 0, .int .i64 0] (n * 4)) u) (.cells #[.slice (some ⟨w.heap.size, 0, none⟩) n n] t)
  refine ⟨⟨n, ?_⟩, ⟨[], ?_⟩, by omega, by simpa using h1, by simpa using h2⟩
  · rw [List.length_replicate]; exact b
  · rw [List.append_nil, ← made4]; exact a

set_option maxHeartbeats 400000 in
theorem new_yes (n : Nat) (w : World) (h1 : 1 ≤ n) (h2 : n ≤ 4096) :
    Calls Tryz.prog 35 #[.int .i64 n] w fun e w' => e = .returned (.tuple #[.pointer (some ⟨w.heap.size + 1, 0, none⟩), .int .i64 0]) ∧ IsP 129 64 w' (w.heap.size + 1) w.heap.size (List.replicate n zd) ∧ Below w.heap.size w w' := by
  have hmk : ∀ W : World, (Instr.makeSlice 126 (.int .i64 (n : Int)) (.int .i64 (n : Int))).run Tryz.prog W = .ok (.slice (some ⟨W.heap.size, 0, none⟩) n n) (W.alloc (.cells (madeCells #[(.int .i64 0 : Value), .int .i64 0, .int .i64 0, .int .i64 0] (n * 4)) 64)) := by
    intro W
    obtain ⟨i, hi, hzz⟩ := Option.map_eq_some_iff.1 info64
    simp only [Prod.mk.injEq] at hzz
    obtain ⟨hz, hs, hb⟩ := hzz
    have hr := run_make (P := Tryz.prog) W 126 64 i _ Tryz.underlying126 hi hz .i64 .i64 n n (by omega) (Int.le_refl _) (by rw [hb]; omega) (by omega)
    simp only [Int.toNat_natCast, hs] at hr
    exact hr
  have hN := hid (isP_new 129 64 w n h1 h2)
  go_enter Tryz.func35, Tryz.ntmps35
  go_wp2
  go_ret2
  exact ⟨rfl, hN.out, btwo w _ _⟩
set_option maxHeartbeats 400000 in
theorem new_no (n : Int) (w : World) (h : ¬ (1 ≤ n ∧ n ≤ 4096)) :
    Calls Tryz.prog 35 #[.int .i64 n] w fun e w' => e = .returned (.tuple #[.pointer none, .int .i64 1]) ∧ w' = w := by
  by_cases h1 : n < 1
  · clear h
    go_enter Tryz.func35, Tryz.ntmps35
    go_wp2
    go_ret2
    exact ⟨rfl, rfl⟩
  · have h2 : 4096 < n := by omega
    clear h
    go_enter Tryz.func35, Tryz.ntmps35
    go_wp2
    go_ret2
    exact ⟨rfl, rfl⟩

set_option maxHeartbeats 400000 in
theorem rnew_yes (n : Nat) (w : World) (h1 : 1 ≤ n) (h2 : n ≤ 4096) :
    Calls Tryz.prog 39 #[.int .i64 n] w fun e w' => e = .returned (.tuple #[.pointer (some ⟨w.heap.size + 1, 0, none⟩), .int .i64 0]) ∧ IsP 90 91 w' (w.heap.size + 1) w.heap.size (List.replicate n zd) ∧ Below w.heap.size w w' := by
  have hmk : ∀ W : World, (Instr.makeSlice 88 (.int .i64 (n : Int)) (.int .i64 (n : Int))).run Tryz.prog W = .ok (.slice (some ⟨W.heap.size, 0, none⟩) n n) (W.alloc (.cells (madeCells #[(.int .i64 0 : Value), .int .i64 0, .int .i64 0, .int .i64 0] (n * 4)) 91)) := by
    intro W
    obtain ⟨i, hi, hzz⟩ := Option.map_eq_some_iff.1 info91
    simp only [Prod.mk.injEq] at hzz
    obtain ⟨hz, hs, hb⟩ := hzz
    have hr := run_make (P := Tryz.prog) W 88 91 i _ Tryz.underlying88 hi hz .i64 .i64 n n (by omega) (Int.le_refl _) (by rw [hb]; omega) (by omega)
    simp only [Int.toNat_natCast, hs] at hr
    exact hr
  have hN := hid (isP_new 90 91 w n h1 h2)
  go_enter Tryz.func39, Tryz.ntmps39
  go_wp2
  go_ret2
  exact ⟨rfl, hN.out, btwo w _ _⟩
set_option maxHeartbeats 400000 in
theorem rnew_no (n : Int) (w : World) (h : ¬ (1 ≤ n ∧ n ≤ 4096)) :
    Calls Tryz.prog 39 #[.int .i64 n] w fun e w' => e = .returned (.tuple #[.pointer (some ⟨w.heap.size, 0, none⟩), .int .i64 1]) ∧ Below w.heap.size w w' := by
  by_cases h1 : n < 1
  · clear h
    go_enter Tryz.func39, Tryz.ntmps39
    go_wp2
    go_ret2
    exact ⟨rfl, below_one w _⟩
  · have h2 : 4096 < n := by omega
    clear h
    go_enter Tryz.func39, Tryz.ntmps39
    go_wp2
    go_ret2
    exact ⟨rfl, below_one w _⟩

set_option maxRecDepth 100000 in
set_option maxHeartbeats 1000000 in
theorem of_none {w : World} {v : Value} (h : NoP w v) (f : Int) :
    Calls Tryz.prog 33 #[v, .int .i64 f] w fun x w' => x = .returned (.tuple #[dV zd, .bool false]) ∧ Below w.heap.size w w' := by
  have HC := hid (fault_none (h.below (below_one w (.cells #[.int .i64 0, .int .i64 0, .int .i64 0, .int .i64 0] 64))) f)
  have hA := heap_alloc_new w (.cells #[.int .i64 0, .int .i64 0, .int .i64 0, .int .i64 0] 64)
  have HB := hid (below_one w (.cells #[.int .i64 0, .int .i64 0, .int .i64 0, .int .i64 0] 64))
  obtain ⟨-, -, -, -, q10, q11, q12, q13⟩ := four hA
  have A1 := hid hA
  clear hA
  go_enter Tryz.func33, Tryz.ntmps33
  go_wp2_with fail
  refine HC.out.mono ?_
  rintro x w1 ⟨rfl, rfl⟩
  go_wp2
  (try simp only [Exit.inBlock, Exit.then])
  refine bodyPost_ret (results_row_tmp rfl _ _ w.heap.size _ rfl (run_loadVar_row _ _ 64 64 _ (0, 0) _ (heap_alloc_new w _) Tryz.underlying64 rfl size64)) rfl ?_
  exact ⟨rfl, below_one w _⟩

set_option maxRecDepth 100000 in
set_option maxHeartbeats 1000000 in
theorem of_out {w : World} {p b : Nat} {L : List Ds} (h : PP w p b L) (f : Int) (hf : ¬ (0 ≤ f ∧ f < L.length)) :
    Calls Tryz.prog 33 #[.pointer (some ⟨p, 0, none⟩), .int .i64 f] w fun x w' => x = .returned (.tuple #[dV zd, .bool false]) ∧ Below w.heap.size w w' := by
  have HC := hid (fault_out (h.alloc (.cells #[.int .i64 0, .int .i64 0, .int .i64 0, .int .i64 0] 64)) f hf)
  have hA := heap_alloc_new w (.cells #[.int .i64 0, .int .i64 0, .int .i64 0, .int .i64 0] 64)
  have HB := hid (below_one w (.cells #[.int .i64 0, .int .i64 0, .int .i64 0, .int .i64 0] 64))
  obtain ⟨-, -, -, -, q10, q11, q12, q13⟩ := four hA
  have A1 := hid hA
  clear hA
  go_enter Tryz.func33, Tryz.ntmps33
  go_wp2_with fail
  refine HC.out.mono ?_
  rintro x w1 ⟨rfl, rfl⟩
  go_wp2
  (try simp only [Exit.inBlock, Exit.then])
  refine bodyPost_ret (results_row_tmp rfl _ _ w.heap.size _ rfl (run_loadVar_row _ _ 64 64 _ (0, 0) _ (heap_alloc_new w _) Tryz.underlying64 rfl size64)) rfl ?_
  exact ⟨rfl, below_one w _⟩

set_option maxRecDepth 100000 in
set_option maxHeartbeats 1000000 in
theorem of_in {w : World} {p b : Nat} {L : List Ds} (h : PP w p b L) (i : Nat) (hi : i < L.length) :
    Calls Tryz.prog 33 #[.pointer (some ⟨p, 0, none⟩), .int .i64 i] w fun x w' => x = .returned (.tuple #[dV (L.getD i zd), .bool true]) ∧ Below w.heap.size w w' := by
  have hA := heap_alloc_new w (.cells #[.int .i64 0, .int .i64 0, .int .i64 0, .int .i64 0] 64)
  have HB := hid (below_one w (.cells #[.int .i64 0, .int .i64 0, .int .i64 0, .int .i64 0] 64))
  have h' := h.alloc (.cells #[.int .i64 0, .int .i64 0, .int .i64 0, .int .i64 0] 64)
  have HC := hid (fault_in h' i hi)
  obtain ⟨c, hc⟩ := h'.slice
  obtain ⟨c0, c1, c2, c3⟩ := h'.cells i hi
  have hn : L.length < 65536 := by have := h.top; omega
  obtain ⟨-, -, -, -, q10, q11, q12, q13⟩ := four hA
  have A1 := hid hA
  clear hA h h'
  generalize L.length = n at hc hn hi
  generalize L.getD i zd = d at c0 c1 c2 c3 ⊢
  obtain ⟨y0, y1, y2, y3⟩ := d
  dsimp only at c0 c1 c2 c3
  go_enter Tryz.func33, Tryz.ntmps33
  go_wp2_with fail
  refine HC.out.mono ?_
  rintro x w1 ⟨rfl, rfl⟩
  go_wp2
  (try simp only [Exit.inBlock, Exit.then])
  refine bodyPost_ret (results_row_tmp rfl _ _ w.heap.size _ rfl (run_loadVar_row _ _ 64 64 _ (0, 0) _ (heap_alloc_new w _) Tryz.underlying64 rfl size64)) rfl ?_
  exact ⟨rfl, below_one w _⟩

theorem fl_one (L : List Ds) : ∀ u ∈ fl L, u.oneCell' = true := by
  intro u hu
  simp only [fl, List.mem_flatMap] at hu
  obtain ⟨d, _, h⟩ := hu
  simp at h
  rcases h with rfl | rfl | rfl | rfl <;> rfl
set_option maxRecDepth 100000 in
set_option maxHeartbeats 1000000 in
theorem clone_at {w : World} {p b : Nat} {L : List Ds} (h : PP w p b L) (c : Nat) :
    Calls Tryz.prog 67 #[.slice (some ⟨b, 0, none⟩) L.length c] w fun x w' => ∃ g k r, x = .returned (.slice (some ⟨g, 0, none⟩) L.length k) ∧ w.heap.size ≤ g ∧ w'.heap[g]? = some (.cells ⟨fl L ++ r⟩ 64 (0, 0)) ∧ Below w.heap.size w w' := by
  obtain ⟨i0, hi, hz0, hz1, hz2⟩ := info_parts info64
  have hpos := h.pos
  have htop := h.top
  have HX : Hid (∀ o : Obj, ∀ j u, (fl L)[j]? = some u → (w.alloc o).cell? ((⟨b, 0, none⟩ : Addr).add j) = some u) := by
    intro o j u hu
    obtain ⟨r, hr⟩ := (h.alloc o).row
    have := cell_of (i := j) (v := u) hr (by simpa using fl_pre L r hu)
    have e : (⟨b, 0, none⟩ : Addr).add j = ⟨b, j, none⟩ := by
      by_cases hj : j = 0
      · subst hj; rfl
      · simp [Addr.add]; exact fun h => absurd h hj
    rw [e]; exact this
  have HOW := hid (World.ownsRow_made w #[] (e := 64) (size := 4) (base := w.heap.size) 0 (Nat.le_refl _) (by decide) rfl)
  have HL := hid (fl_length L)
  have he := fun W => Lib.run_eql_slice_nil (P := Tryz.prog) W 126 64 (some ⟨b, 0, none⟩) L.length c 0 0 Tryz.underlying126
  simp only [Option.isNone_some] at he
  have hz3 : (Value.agg #[Value.int IntKind.i64 0, Value.int IntKind.i64 0, Value.int IntKind.i64 0, Value.int IntKind.i64 0]).cells.size = 4 := rfl
  clear h
  go_enter Tryz.func67, Tryz.ntmps67
  go_wp2_with (at_builtin; refine wpList_append_own _ rfl _ _ 126 rfl w.heap.size 64 i0 _ 4 32 Tryz.underlying126 hi hz0 hz1 hz2 hz3 (by decide) _ 0 [] rfl HOW.out ⟨b, 0, none⟩ L.length c (fl L) rfl HL.out (HX.out _) (fl_one L) (by unfold maxLen; omega) (by omega) (by simp) ?_)
  intro v' w1 hown hgrow _
  rcases hown.2 with ⟨_, h0⟩ | ⟨g, cap, cur, rfl, hg, hcur, hle, hcap, hsz, htk⟩
  · omega
  have HB := hid ((below_one w _).grown hgrow (by simp) (fun k e => by simp [Value.ownBlock] at e; omega))
  have HG : Hid (∃ r, w1.heap[g]? = some (.cells ⟨fl L ++ r⟩ 64 (0, 0))) := by
    refine ⟨cur.toList.drop (L.length * 4), ?_⟩
    rw [hcur, ← htk, List.take_append_drop]
  have HGs := hid hg
  clear hown hgrow hcur hsz htk hg
  go_wp2
  go_ret
  obtain ⟨r, hr⟩ := HG.out
  exact ⟨g, cap, r, rfl, HGs.out, hr, HB.out⟩

set_option maxRecDepth 100000 in
set_option maxHeartbeats 1000000 in
theorem copy_at {w : World} {p b : Nat} {L : List Ds} (h : PP w p b L) :
    Calls Tryz.prog 27 #[.pointer (some ⟨p, 0, none⟩)] w fun x w' => ∃ q g, x = .returned (.pointer (some ⟨q, 0, none⟩)) ∧ PP w' q g L ∧ w.heap.size ≤ q ∧ w.heap.size ≤ g ∧ Below w.heap.size w w' := by
  have HP := hid h
  obtain ⟨c, hc⟩ := h.slice
  have HC := hid (clone_at h c)
  clear h
  generalize hn : L.length = n at hc
  have HN := hid hn
  rw [hn] at HC
  clear hn
  go_enter Tryz.func27, Tryz.ntmps27
  go_wp2_with fail
  refine (isNone_no HP.out).mono ?_
  rintro x w1 ⟨rfl, rfl⟩
  go_wp2_with fail
  refine HC.out.mono ?_
  rintro x w2 ⟨g, k, r, rfl, hg, hr, hB⟩
  have HG := hid hg
  have HR := hid hr
  have HB := hid hB
  clear hg hr hB
  go_wp2
  go_ret
  refine ⟨w2.heap.size, g, rfl, ⟨⟨k, ?_⟩, ⟨r, hkeep HR.out _⟩, ?_, HP.out.pos, HP.out.top⟩, HB.out.size, HG.out, bgo HB.out (below_one _ _)⟩
  · rw [HN.out]; exact heap_alloc_new _ _
  · have := lt_of_block HR.out; omega
theorem copy_none {w : World} {v : Value} (h : NoP w v) :
    Calls Tryz.prog 27 #[v] w fun x w' => x = .returned (.pointer none) ∧ w' = w := by
  have HP := hid h
  clear h
  go_enter Tryz.func27, Tryz.ntmps27
  go_wp2_with fail
  refine (isNone_yes HP.out).mono ?_
  rintro x w1 ⟨rfl, rfl⟩
  go_wp2
  go_ret
  exact ⟨rfl, rfl⟩
end Go.Proofs.YtpfmmlbakbhklaaGreatDoor.O
namespace Go.Proofs.YtpfmmlbakbhklaaGreatDoor.O
open Go.RowKit

/-- A slice that reads as the numbers xs. -/
def Lies (w : World) (v : Value) (xs : List Nat) : Prop :=
  xs.length ≤ 65536 ∧ ∃ q c, v = .slice q xs.length c ∧ (xs ≠ [] → ∃ b off, q = some ⟨b, off, none⟩ ∧ b < w.heap.size ∧ ∀ i, i < xs.length → w.cell? ⟨b, off + i, none⟩ = some (.int .i64 (xs.getD i 0 : Nat)))
theorem Lies.below {w w' : World} {v : Value} {xs : List Nat} (h : Lies w v xs) (hb : Below w.heap.size w w') : Lies w' v xs := by
  obtain ⟨hV, q, c, rfl, hc⟩ := h
  refine ⟨hV, q, c, rfl, fun hne => ?_⟩
  obtain ⟨b, off, rfl, h1, h2⟩ := hc hne
  exact ⟨b, off, rfl, Nat.lt_of_lt_of_le h1 hb.size, fun i hi => (hb.cell (p := ⟨b, off + i, none⟩) h1).trans (h2 i hi)⟩
theorem Lies.of_owns {w : World} {base : Nat} {v : Value} {xs : List Nat} (h : w.ownsRow base 3 1 v xs.length (ints xs)) (hl : xs.length ≤ 65536) : Lies w v xs := by
  refine ⟨hl, ?_⟩
  have hcs : ∀ {g : Nat}, v.ownBlock = some g → _ := fun {g} hg => h.cells (g := g) hg
  have hlt := h.lt
  obtain ⟨_, ⟨rfl, hn⟩ | ⟨g, cap, cur, rfl, _, _, _⟩⟩ := h
  · have : xs = [] := List.eq_nil_of_length_eq_zero hn
    subst this
    exact ⟨none, 0, rfl, fun h => absurd rfl h⟩
  · refine ⟨some ⟨g, 0, none⟩, cap, rfl, fun _ => ⟨g, 0, rfl, (hlt g rfl).2, fun i hi => ?_⟩⟩
    have := hcs rfl i (.int .i64 (xs[i] : Nat)) (by simp [ints, hi])
    have ha : ((⟨g, 0, none⟩ : Addr).add i) = ⟨g, i, none⟩ := by by_cases h : i = 0 <;> simp [Addr.add, h]
    rw [ha] at this
    simpa [List.getD, hi] using this

set_option maxHeartbeats 400000 in
theorem same_nil (p q : Option Addr) (c d : Nat) (w : World) :
    Calls Tryz.prog 15 #[.slice p 0 c, .slice q 0 d] w fun e w' => e = .returned (.bool true) ∧ w' = w := by
  go_enter Tryz.func15, Tryz.ntmps15
  go_wp2
  refine wp_loop_rounds 1 ?_
  rw [rounds_succ]
  go_wp2
  go_ret
  exact ⟨rfl, rfl⟩

set_option maxHeartbeats 800000 in
theorem same_some (b1 o1 b2 o2 c d n : Nat) (f : Nat → Int) (w : World) (hn : n ≤ 65536)
    (h1 : ∀ i, i < n → w.cell? ⟨b1, o1 + i, none⟩ = some (.int .i64 (f i))) (h2 : ∀ i, i < n → w.cell? ⟨b2, o2 + i, none⟩ = some (.int .i64 (f i))) :
    Calls Tryz.prog 15 #[.slice (some ⟨b1, o1, none⟩) n c, .slice (some ⟨b2, o2, none⟩) n d] w fun e w' => e = .returned (.bool true) ∧ Below w.heap.size w w' := by
  go_enter Tryz.func15, Tryz.ntmps15
  go_wp2
  go_loopw [5] (fun i wr => ∃ k m : Nat, k ≤ n ∧ i = .int .i64 k ∧ wr = w.drewN m) (fun i _ => n - (intOf i).toNat)
  case atStart => exact ⟨0, 0, Nat.zero_le _, rfl, rfl⟩
  case round =>
    obtain ⟨k, m, hk, rfl, hwr⟩ := hrel
    have HW : Hid (wr = w.drewN m) := hwr
    have hcell : ∀ a, wr.cell? a = w.cell? a := fun a => by rw [hwr]; simp
    by_cases hlt : k < n
    · have c1 := (hcell _).trans (h1 k hlt)
      have c2 := (hcell _).trans (h2 k hlt)
      clear hwr hcell h1 h2
      generalize f k = x at c1 c2
      go_wp2
      go_quiet (fail)
      go_wp2
      refine ⟨⟨k + 1, m + nq, by omega, by go_num, ?_⟩, by simp [intOf]; omega⟩
      rw [HW.out]; simp [World.drewN_drewN]
    · clear hwr hcell h1 h2
      go_wp2
      go_ret
      refine ⟨rfl, ?_⟩
      rw [HW.out]; exact below_drewN (Below.refl _ _) m

theorem same_any {w : World} {u v : Value} {xs : List Nat} (h : Lies w u xs) (k : Lies w v xs) :
    Calls Tryz.prog 15 #[u, v] w fun e w' => e = .returned (.bool true) ∧ Below w.heap.size w w' := by
  obtain ⟨hn, p, c, rfl, hp⟩ := h
  obtain ⟨_, q, d, rfl, hq⟩ := k
  by_cases hne : xs = []
  · subst hne
    refine (same_nil p q c d w).mono ?_
    rintro e w' ⟨rfl, hw⟩
    rw [hw]
    exact ⟨rfl, Below.refl _ _⟩
  · obtain ⟨b1, o1, rfl, _, h1⟩ := hp hne
    obtain ⟨b2, o2, rfl, _, h2⟩ := hq hne
    exact same_some b1 o1 b2 o2 c d xs.length (fun i => (xs.getD i 0 : Nat)) w hn h1 h2
end Go.Proofs.YtpfmmlbakbhklaaGreatDoor.O
