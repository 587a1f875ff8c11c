/- What Owned returns of no pool (nothing), and what firstFree and Take return and leave, for every pool whose descriptors lie in memory and every number: the same as the document's. Condition: the table of rules lies in its variable (for Take). -/
import Derived.Test.YtpfmmlbakbhklaaGreatDoorOS6
import Derived.Test.YtpfmmlbakbhklaaGreatDoorOS4
namespace Go.Proofs.YtpfmmlbakbhklaaGreatDoor.O
open Go.RowKit Go.Shelf

attribute [local go_sem] Oper.semAt_some

/-- The value that those hands back, of no pool. -/
theorem thoseO_stops_none (n : Nat) (hn : 1 ≤ n) (Bp Bm c : Nat) (p : Option Addr) (w : World) (hBp : w.cell? ⟨Bp, 0, none⟩ = some (.pointer p)) (hP : NoP w (.pointer p)) (encs : Nat → Array Value) :
    SeqStopsK Fence.wide n Tryz.prog 109 #[.pointer (some ⟨Bp, 0, none⟩), .pointer (some ⟨Bm, 0, none⟩)] encs (Kc c w.heap.size) (fun ys => ys = []) (fun _ => False) 0 w := fun l J _ W hW _ _ _ h0 =>
  (thoseO_none n hn l Bp Bm p J W ((hW.cell (p := ⟨Bp, 0, none⟩) (World.block_lt_of_cell? w ⟨Bp, 0, none⟩ hBp)).trans hBp) (hP.below hW) h0).mono fun _ _ ⟨a, b⟩ => ⟨a, .inl ⟨_, rfl, b⟩⟩

theorem heap5 (w : World) (A B C D E : Obj) : (((((w.alloc A).alloc B).alloc C).alloc D).alloc E).heap[w.heap.size]? = some A ∧ (((((w.alloc A).alloc B).alloc C).alloc D).alloc E).heap[w.heap.size + 1]? = some B ∧ (((((w.alloc A).alloc B).alloc C).alloc D).alloc E).heap[w.heap.size + 2]? = some C ∧ (((((w.alloc A).alloc B).alloc C).alloc D).alloc E).heap[w.heap.size + 3]? = some D ∧ (((((w.alloc A).alloc B).alloc C).alloc D).alloc E).heap[w.heap.size + 4]? = some E := by
  obtain ⟨a, b, c, d⟩ := heap4 w A B C D
  refine ⟨hkeep a _, hkeep b _, hkeep c _, hkeep d _, ?_⟩
  have := heap_alloc_new ((((w.alloc A).alloc B).alloc C).alloc D) E
  simpa using this
/-- The least free frame, if there is one. -/
def ff : List Nat → Value | [] => .tuple #[.int .i64 0, .bool false] | f :: _ => .tuple #[.int .i64 (f : Nat), .bool true]

set_option maxRecDepth 100000 in
set_option maxHeartbeats 2000000 in
theorem first_in {w : World} {p b : Nat} {L : List Ds} (hP : PP w p b L) :
    CallsIn Fence.wide 3 Tryz.prog 150 #[.pointer (some ⟨p, 0, none⟩)] w fun e w' => e = .returned (ff (fr L)) ∧ Below w.heap.size w w' := by
  have HP := hid hP
  have hl := hP.lt
  clear hP
  refine callsIn_of_wp_marks Tryz.func150 rfl trivial ?_ rfl
  simp only [Tryz.ntmps150, List.size_toArray, List.length_cons, List.length_nil, Nat.reduceAdd, Nat.reduceSub, Array.replicate_succ, Array.replicate_zero, List.push_toArray, List.append_toArray, List.nil_append, List.cons_append]
  gi_wp2_with fail
  refine ⟨trivial, (ofK_in _ _ _).mono ?_⟩
  rintro e w' ⟨rfl, rfl⟩
  gi_wp2_with fail
  refine ⟨trivial, (those_in _ _ _ _ _).mono ?_⟩
  rintro e w' ⟨rfl, rfl⟩
  gi_wp2
  have hB0 := (bfour w (.cells #[.int .i64 0] 3) (.cells #[.bool false] 4) (.cells #[.int .i64 0] 3) (.cells #[.pointer (some ⟨p, 0, none⟩)] 32)).alloc (by simp; omega) (.cells #[.func (.func 110) #[] #[.pointer (some ⟨w.heap.size + 2, 0, none⟩)]] 133)
  obtain ⟨u0, u1, u2, u3, u4⟩ := heap5 w (.cells #[.int .i64 0] 3) (.cells #[.bool false] 4) (.cells #[.int .i64 0] 3) (.cells #[.pointer (some ⟨p, 0, none⟩)] 32) (.cells #[.func (.func 110) #[] #[.pointer (some ⟨w.heap.size + 2, 0, none⟩)]] 133)
  have hs4 : (((((w.alloc (.cells #[.int .i64 0] 3)).alloc (.cells #[.bool false] 4)).alloc (.cells #[.int .i64 0] 3)).alloc (.cells #[.pointer (some ⟨p, 0, none⟩)] 32)).alloc (.cells #[.func (.func 110) #[] #[.pointer (some ⟨w.heap.size + 2, 0, none⟩)]] 133)).heap.size = w.heap.size + 5 := by simp
  have hP4 := HP.out.below hB0
  generalize hw4 : (((((w.alloc (.cells #[.int .i64 0] 3)).alloc (.cells #[.bool false] 4)).alloc (.cells #[.int .i64 0] 3)).alloc (.cells #[.pointer (some ⟨p, 0, none⟩)] 32)).alloc (.cells #[.func (.func 110) #[] #[.pointer (some ⟨w.heap.size + 2, 0, none⟩)]] 133)) = w4 at *
  have kept : ∀ (B : Nat) (t : TypeId) (v : Value) (X Y : World) (row : Option Nat), Boxed X B t v → X.grownBy Y row → (∀ r, row = some r → ∃ o : Obj, X.heap[r]? = some o ∧ o.isCells = false) → Boxed Y B t v := fun B t v X Y row hs hg hr => hs.kept hg (fun e' => by
      obtain ⟨o, ho, hc⟩ := hr _ e'.symm
      rw [show X.heap[B]? = _ from hs] at ho; cases ho; cases hc)
  refine wpIn_rangeFunc_ownG rfl (by decide) (gf := 109) (lb := #[.pointer (some ⟨w.heap.size + 3, 0, none⟩), .pointer (some ⟨w.heap.size + 4, 0, none⟩)]) rfl trivial (enters_of Tryz.func109 (by kernel_rfl) rfl)
    (thoseK_stops (3 - 1) (by decide) (w.heap.size + 3) (w.heap.size + 4) (w.heap.size + 2) w.heap.size p b L 0 w4 (cell_of u3 rfl) (cell_of u4 rfl) (cell_of u2 rfl) hP4 ⟨by omega, by omega, by omega, by omega⟩ (fun x : Nat => #[.int .i64 (x : Nat)]) (fun _ => rfl)) kc_t kcK_b (Below.refl _ _) (fun _ => rfl)
    (fun pre W => (pre = [] ∧ Boxed W w.heap.size 3 (.int .i64 0) ∧ Boxed W (w.heap.size + 1) 4 (.bool false)) ∧ Below w.heap.size w W)
    (fun c pre W => (c = .ret ∧ ∃ x : Nat, pre = [x] ∧ Boxed W w.heap.size 3 (.int .i64 (x : Nat)) ∧ Boxed W (w.heap.size + 1) 4 (.bool true)) ∧ Below w.heap.size w W)
    (OwnFrom.and (Own.from (fun s X Y row hs hg hr => ⟨hs.1, kept _ _ _ _ _ _ hs.2.1 hg hr, kept _ _ _ _ _ _ hs.2.2 hg hr⟩) _) (ownFrom_below (Nat.le_refl _) (by rw [hs4]; omega)))
    (fun c => OwnFrom.and (Own.from (fun s X Y row ⟨h1, x, h2, h3, h4⟩ hg hr => ⟨h1, x, h2, kept _ _ _ _ _ _ h3 hg hr, kept _ _ _ _ _ _ h4 hg hr⟩) _) (ownFrom_below (Nat.le_refl _) (by rw [hs4]; omega)))
    ⟨⟨rfl, u0, u1⟩, hB0⟩
    (fun x => { tmps := #[.pointer (some ⟨p, 0, none⟩), undef, .pointer (some ⟨w.heap.size, 0, none⟩), .pointer (some ⟨w.heap.size + 1, 0, none⟩), .int .i64 (x : Nat), .pointer (some ⟨p, 0, none⟩), .func (.func 110) #[] #[.pointer (some ⟨w.heap.size + 2, 0, none⟩)], .func (.func 109) #[] #[.pointer (some ⟨w.heap.size + 3, 0, none⟩), .pointer (some ⟨w.heap.size + 4, 0, none⟩)], .int .i64 (x : Nat), undef], defers := [] }) ?assign ?body ?done ?stop
  case assign =>
    intro l x W K hK
    gi_wp2
    simpa using hK
  case body =>
    rintro l pre x W ⟨⟨rfl, hv, hv2⟩, hB⟩ hlt
    have hc := hv.cell
    have hf := hv.frozen
    have hc2 := hv2.cell
    have hf2 := hv2.frozen
    have h1 := (hv.set (.int .i64 (x : Nat))).kept (row := some (w.heap.size + 1)) (grownBy_setCell' _ (w.heap.size + 1) (.bool true)) (by simp)
    have h2 := (hv2.kept (row := some w.heap.size) (grownBy_setCell' W w.heap.size (.int .i64 (x : Nat))) (by simp)).set (.bool true)
    gi_wp2
    exact ⟨((KeepsOthers.setCell _ _ _).trans (KeepsOthers.setCell _ _ _)).from _, ⟨rfl, x, rfl, h1, h2⟩, (hB.setCell (p := ⟨w.heap.size, 0, none⟩) (Nat.le_refl _) _).setCell (p := ⟨w.heap.size + 1, 0, none⟩) (by simp) _⟩
  case done =>
    rintro D ys W hD rfl ⟨⟨h0, hv, hv2⟩, hB⟩ hK
    have hc := hv.cell
    have hf := hv.frozen
    have hc2 := hv2.cell
    have hf2 := hv2.frozen
    have h1 := (hv.set (.int .i64 0)).kept (row := some (w.heap.size + 1)) (grownBy_setCell' _ (w.heap.size + 1) (.bool false)) (by simp)
    have h2 := (hv2.kept (row := some w.heap.size) (grownBy_setCell' W w.heap.size (.int .i64 0)) (by simp)).set (.bool false)
    have hK' := ((KeepsOthers.setCell W ⟨w.heap.size, 0, none⟩ (.int .i64 0)).trans (KeepsOthers.setCell _ ⟨w.heap.size + 1, 0, none⟩ (.bool false))).same D _ hK rfl
    have hB' := (hB.setCell (p := ⟨w.heap.size, 0, none⟩) (Nat.le_refl _) (.int .i64 0)).setCell (p := ⟨w.heap.size + 1, 0, none⟩) (by simp) (.bool false)
    gi_wp2
    refine ⟨by simp, .inl ⟨_, _, rfl, run_takeDeferred hK', ?_⟩⟩
    have hc5 := (kept _ _ _ _ _ _ h1 (grownBy_putObj' _ D (.deferred none)) (fun r e => by cases e; exact ⟨_, hK', rfl⟩)).cell
    have hc6 := (kept _ _ _ _ _ _ h2 (grownBy_putObj' _ D (.deferred none)) (fun r e => by cases e; exact ⟨_, hK', rfl⟩)).cell
    refine ⟨.tuple #[.int .i64 0, .bool false], ?_, by rw [show fr L = [] from h0]; rfl, hB'.trans (belowK_b (w := w) (Nat.le_refl _) _ D _ _ (by omega) hK' rfl rfl)⟩
    simp [results, Tryz.f150, go_sem, hc5, hc6]
  case stop =>
    rintro D c pre W hD hpre ⟨⟨rfl, x, rfl, hv, hv2⟩, hB⟩ hK
    gi_wp2
    refine ⟨by simp, .inl ⟨_, _, rfl, run_takeDeferred hK, ?_⟩⟩
    have hc5 := (kept _ _ _ _ _ _ hv (grownBy_putObj' _ D (.deferred none)) (fun r e => by cases e; exact ⟨_, hK, rfl⟩)).cell
    have hc6 := (kept _ _ _ _ _ _ hv2 (grownBy_putObj' _ D (.deferred none)) (fun r e => by cases e; exact ⟨_, hK, rfl⟩)).cell
    obtain ⟨q, hq⟩ := hpre
    refine ⟨.tuple #[.int .i64 (x : Nat), .bool true], ?_, by rw [show fr L = x :: q from hq.symm]; rfl, hB.trans (belowK_b (w := w) (Nat.le_refl _) W D _ _ (by omega) hK rfl rfl)⟩
    simp [results, Tryz.f150, go_sem, hc5, hc6]
theorem first_at {w : World} {p b : Nat} {L : List Ds} (hP : PP w p b L) :
    Calls Tryz.prog 150 #[.pointer (some ⟨p, 0, none⟩)] w fun e w' => e = .returned (ff (fr L)) ∧ Below w.heap.size w w' :=
  callsIn_wide.1 (first_in hP)

set_option maxHeartbeats 1000000 in
theorem take_at {w : World} {p b : Nat} {L : List Ds} (h : PP w p b L) (k o : Int) (hT : Tab w) :
    Calls Tryz.prog 111 #[.pointer (some ⟨p, 0, none⟩), .int .i64 k, .int .i64 o] w fun x w' => x = .returned (.tuple #[.int .i64 (kF L k o), .int .i64 (kE L k o)]) ∧ PP w' p b (kL L k o) ∧ Bt b w w' := by
  have HP := hid h
  have HT := hid hT
  have hC := first_at h
  unfold kF kE kL
  cases hfr : fr L with
  | nil =>
    rw [hfr] at hC
    have HC := hid hC
    clear hC h hT hfr
    go_enter Tryz.func111, Tryz.ntmps111
    go_wp2_with fail
    refine (isNone_no HP.out).mono ?_
    rintro x w1 ⟨rfl, rfl⟩
    go_wp2_with fail
    refine HC.out.mono ?_
    rintro x w2 ⟨rfl, hB⟩
    have HB := hid hB
    clear hB
    unfold ff
    (try simp only [])
    go_wp2
    go_ret2
    exact ⟨rfl, HP.out.below HB.out, Bt.of_below HB.out⟩
  | cons f q =>
    rw [hfr] at hC
    have HC := hid hC
    have HF : Hid (f < L.length) := (wh_mem.1 (by rw [hfr]; exact List.mem_cons_self : f ∈ fr L)).1
    clear hC h hT hfr
    dsimp only
    by_cases hz : tE L (f : Nat) k o = 0
    · go_enter Tryz.func111, Tryz.ntmps111
      go_wp2_with fail
      refine (isNone_no HP.out).mono ?_
      rintro x w1 ⟨rfl, rfl⟩
      go_wp2_with fail
      refine HC.out.mono ?_
      rintro x w2 ⟨rfl, hB⟩
      have HB := hid hB
      clear hB
      unfold ff
      (try simp only [])
      go_wp2_with fail
      refine (turn_at (HP.out.below HB.out) _ _ _ (HT.out.go HB.out)).mono ?_
      rintro x w3 ⟨rfl, hP3, hB3⟩
      rw [hz]
      go_wp2
      go_ret2
      refine ⟨rfl, hP3, (Bt.of_below HB.out).trans hB3⟩
    · have hz' : (tE L (f : Nat) k o != 0) = true := by simpa using hz
      go_enter Tryz.func111, Tryz.ntmps111
      go_wp2_with fail
      refine (isNone_no HP.out).mono ?_
      rintro x w1 ⟨rfl, rfl⟩
      go_wp2_with fail
      refine HC.out.mono ?_
      rintro x w2 ⟨rfl, hB⟩
      have HB := hid hB
      clear hB
      unfold ff
      (try simp only [])
      go_wp2_with fail
      refine (turn_at (HP.out.below HB.out) _ _ _ (HT.out.go HB.out)).mono ?_
      rintro x w3 ⟨rfl, hP3, hB3⟩
      go_wp2
      go_ret2
      refine ⟨rfl, hP3, (Bt.of_below HB.out).trans hB3⟩
set_option maxHeartbeats 1000000 in
theorem take_none {w : World} {v : Value} (h : NoP w v) (k o : Int) :
    Calls Tryz.prog 111 #[v, .int .i64 k, .int .i64 o] w fun x w' => x = .returned (.tuple #[.int .i64 0, .int .i64 10]) ∧ w' = w := by
  have H2 := hid h
  clear h
  go_enter Tryz.func111, Tryz.ntmps111
  go_wp2_with fail
  refine (isNone_yes H2.out).mono ?_
  rintro x w1 ⟨rfl, rfl⟩
  go_wp2
  go_ret2
  exact ⟨rfl, rfl⟩
end Go.Proofs.YtpfmmlbakbhklaaGreatDoor.O
