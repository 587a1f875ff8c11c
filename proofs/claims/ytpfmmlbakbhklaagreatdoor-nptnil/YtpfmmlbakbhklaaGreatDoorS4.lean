/- What a walker's next act is, and that asking for it changes nothing. Conditions: it is a walker that goes on, or one that is done, or none. -/
import Derived.Test.YtpfmmlbakbhklaaGreatDoorS3
namespace Go.Proofs.YtpfmmlbakbhklaaGreatDoor
open Go.RowKit

theorem isNone_nil' (w : World) : Calls Tryz.prog 104 #[.pointer none] w fun e w' => e = .returned (.bool true) ∧ w' = w := by
  go_enter Tryz.func104, Tryz.ntmps104
  go_wp2
  go_ret
  exact ⟨rfl, rfl⟩
theorem isNone_no {w : World} {g : Nat} {x : Wk} (h : IsWk w g x) (hs : x.st = 1 ∨ x.st = 2) : Calls Tryz.prog 104 #[.pointer (some ⟨g, 0, none⟩)] w fun e w' => e = .returned (.bool false) ∧ w' = w := by
  have c0 := h.c0
  clear h
  rcases hs with hs | hs
  all_goals
    rw [hs] at c0
    go_enter Tryz.func104, Tryz.ntmps104
    go_wp2
    go_ret
    exact ⟨rfl, rfl⟩

theorem size175 : (Tryz.prog.info? 175).map (·.size) = some 4 := by kernel_rfl
abbrev zAc : Ac := ⟨0, 0, 0, 0⟩
set_option maxHeartbeats 400000 in
theorem next_nil (w : World) : Calls Tryz.prog 107 #[.pointer none] w fun e w' => e = .returned (acV zAc) ∧ Below w.heap.size w w' := by
  go_enter Tryz.func107, Tryz.ntmps107
  go_wp2_with fail
  refine (isNone_nil' _).mono ?_
  rintro r w1 ⟨rfl, hw⟩
  rw [hw]
  clear hw w1
  go_wp2
  (try simp only [Exit.inBlock, Exit.then])
  refine bodyPost_ret (results_cell_row rfl _ _ w.heap.size 175 _ (0, 0) _ rfl (heap_alloc_new _ _) Tryz.underlying175 rfl size175) rfl ?_
  exact ⟨rfl, below_alloc _ _⟩
set_option maxHeartbeats 400000 in
theorem next_done {w : World} {g : Nat} {x : Wk} (h : IsWk w g x) (hs : x.st = 2) : Calls Tryz.prog 107 #[.pointer (some ⟨g, 0, none⟩)] w fun e w' => e = .returned (acV zAc) ∧ Below w.heap.size w w' := by
  have hl := h.lt
  have c0 := h.c0
  rw [hs] at c0
  have H := hid (isNone_no (h.below (below_alloc w (.cells #[.int .i64 0, .int .i64 0, .int .u64 0, .int .u64 0] 175))) (.inr hs))
  clear h hs
  go_enter Tryz.func107, Tryz.ntmps107
  go_wp2_with fail
  refine H.out.mono ?_
  rintro r w1 ⟨rfl, hw⟩
  rw [hw]
  clear hw w1 H
  go_wp2
  (try simp only [Exit.inBlock, Exit.then])
  refine bodyPost_ret (results_cell_row rfl _ _ w.heap.size 175 _ (0, 0) _ rfl (heap_alloc_new _ _) Tryz.underlying175 rfl size175) rfl ?_
  exact ⟨rfl, below_alloc _ _⟩

def nextA (x : Wk) : Ac := ⟨1, P.at' x.fr x.pg x.lv, 0, 0⟩
set_option maxHeartbeats 1000000 in
theorem next_go {w : World} {g : Nat} {x : Wk} (h : IsWk w g x) (hs : x.st = 1) : Calls Tryz.prog 107 #[.pointer (some ⟨g, 0, none⟩)] w fun e w' => e = .returned (acV (nextA x)) ∧ Below w.heap.size w w' := by
  have hl := h.lt
  have c0 := h.c0
  rw [hs] at c0
  have H := hid (isNone_no (h.below (below_alloc w (.cells #[.int .i64 0, .int .i64 0, .int .u64 0, .int .u64 0] 175))) (.inl hs))
  have HS := hid (fun o => have hx := h.below (((Below.refl _ _).alloc (Nat.le_refl _) o).drew); (⟨hx.c3, hx.c1, hx.c4⟩ : _ ∧ _ ∧ _))
  have HA := hid (fun W => P.place_at x.fr x.pg x.lv W)
  unfold nextA
  generalize P.at' x.fr x.pg x.lv = at0 at *
  generalize x.fr = fr at *
  generalize x.pg = pg at *
  generalize x.lv = lv at *
  clear h hs
  go_enter Tryz.func107, Tryz.ntmps107
  go_wp2_with fail
  refine H.out.mono ?_
  rintro r w1 ⟨rfl, hw⟩
  rw [hw]
  clear hw w1 H
  go_wp2_with fail
  go_region_held3 (fun w' => w'.cell? ⟨g, 3, none⟩ = some (.int .i64 fr) ∧ w'.cell? ⟨g, 1, none⟩ = some (.int .i64 pg) ∧ w'.cell? ⟨g, 4, none⟩ = some (.int .i64 lv)) (first | with_reducible exact HS.out _ | with_reducible assumption)
    (first
      | (go_at_call 103; refine (HA.out _).mono ?_; rintro e v' ⟨rfl, hw'⟩; rw [hw']; clear hw' v'))
  go_wp2
  (try simp only [Exit.inBlock, Exit.then])
  refine bodyPost_ret (results_cell_row rfl _ _ w.heap.size 175 _ (0, 0) _ rfl (P.stay ((Below.refl _ _).drew) (heap_alloc_new _ _)) Tryz.underlying175 rfl size175) rfl ?_
  exact ⟨rfl, ((Below.refl _ _).alloc (Nat.le_refl _) _).drew⟩

/-! ### A step -/
def stepW (xs : List Int) (x : Wk) : Wk := ocW (oc xs x.fr x.pg x.wt x.lv) (putP x x.ld.toNat)
/-- Words below 2^64. -/
def U64 (xs : List Int) : Prop := ∀ i, 0 ≤ xs.getD i 0 ∧ xs.getD i 0 < 18446744073709551616
theorem U64.at {xs : List Int} (h : U64 xs) (a : Int) : ∃ n : Nat, wordAt xs a = n ∧ n < 18446744073709551616 := by
  unfold wordAt
  split
  · have := h a.toNat
    exact ⟨(xs.getD a.toNat 0).toNat, by omega, by omega⟩
  · exact ⟨0, rfl, by decide⟩
theorem goOn_at {w : World} {g : Nat} {x : Wk} (h : IsWk w g x) (k : WOk x) (l0 : 0 ≤ x.ld) (l4 : x.ld < 4) (v : Nat) (hv : v < 18446744073709551616) (ok : Bool) (e : Int) :
    Calls Tryz.prog 105 #[.pointer (some ⟨g, 0, none⟩), reV ⟨v, ok, e⟩] w fun r w' => r = .returned (.tuple #[]) ∧ IsWk w' g (ocW (ocx (e == 0) v x.pg x.wt x.lv) (putP x x.ld.toNat)) ∧ But g g w w' := by
  have hn : x.ld = (x.ld.toNat : Int) := by omega
  by_cases hb : (e == 0 && P.prY v) = true
  · have e1 : ocx (e == 0) (v : Int) x.pg x.wt x.lv = kn (P.rd v) x.pg x.wt x.lv := by
      unfold ocx
      rw [Int.toNat_natCast, if_pos hb]
    rw [e1]
    simp only [Bool.and_eq_true] at hb
    have h0 : e = 0 := by simpa using hb.1
    subst h0
    exact goOn_ok h k _ hn (by omega) v hv ok hb.2
  · have e1 : ocx (e == 0) (v : Int) x.pg x.wt x.lv = .fin ⟨0, 0, x.lv, 11⟩ := by
      unfold ocx
      rw [Int.toNat_natCast, if_neg hb]
    rw [e1]
    exact goOn_bad h _ hn (by omega) v hv ok e (by simpa using hb)

/-- A walker and its words. -/
structure Ws (w : World) (p b g : Nat) (s : St) (x : Wk) : Prop where
  mem : Mem 124 w p b s
  wk : IsWk w g x
  gp : g ≠ p
  gb : g ≠ b
/-- All that was there is as it was, but for the blocks g, p and b. -/
structure But3 (g p b : Nat) (w w' : World) : Prop where
  os : w'.os = w.os
  tape : w'.tape = w.tape
  output : w'.output = w.output
  size : w.heap.size ≤ w'.heap.size
  block : ∀ k, k < w.heap.size → k ≠ g → k ≠ p → k ≠ b → w'.heap[k]? = w.heap[k]?
theorem But3.of_below {g p b : Nat} {w w' : World} (h : Below w.heap.size w w') : But3 g p b w w' := ⟨h.os, h.tape, h.output, h.size, fun k hk _ _ _ => h.block k hk⟩
theorem But3.of_but {g p b : Nat} {w w' : World} (h : But p b w w') : But3 g p b w w' := ⟨h.os, h.tape, h.output, h.size, fun k hk _ h1 h2 => h.block k hk h1 h2⟩
theorem But3.of_one {g p b : Nat} {w w' : World} (h : But g g w w') : But3 g p b w w' := ⟨h.os, h.tape, h.output, h.size, fun k hk h1 _ _ => h.block k hk h1 h1⟩
theorem But3.trans {g p b : Nat} {x y z : World} (h : But3 g p b x y) (k : But3 g p b y z) : But3 g p b x z :=
  ⟨k.os.trans h.os, k.tape.trans h.tape, k.output.trans h.output, Nat.le_trans h.size k.size, fun i hi a c d => (k.block i (Nat.lt_of_lt_of_le hi h.size) a c d).trans (h.block i hi a c d)⟩
theorem But3.bel {g p b : Nat} {w0 w w' : World} (h : But3 g p b w w') (k : Below w0.heap.size w0 w) (h1 : w0.heap.size ≤ g) (h2 : w0.heap.size ≤ p) (h3 : w0.heap.size ≤ b) : Below w0.heap.size w0 w' :=
  ⟨h.os.trans k.os, h.tape.trans k.tape, h.output.trans k.output, Nat.le_trans k.size h.size, fun i hi => (h.block i (Nat.lt_of_lt_of_le hi k.size) (by omega) (by omega) (by omega)).trans (k.block i hi)⟩
theorem But3.but {g p b : Nat} {w w1 w2 : World} (h : But p b w w1) (k : But3 g p b w1 w2) (hg : w.heap.size ≤ g) : But p b w w2 :=
  ⟨k.os.trans h.os, k.tape.trans h.tape, k.output.trans h.output, Nat.le_trans h.size k.size, fun i hi a c => (k.block i (Nat.lt_of_lt_of_le hi h.size) (by omega) a c).trans (h.block i hi a c)⟩
theorem Ws.below {w w' : World} {p b g : Nat} {s : St} {x : Wk} (h : Ws w p b g s x) (k : Below w.heap.size w w') : Ws w' p b g s x := ⟨h.mem.below k, h.wk.below k, h.gp, h.gb⟩

set_option maxHeartbeats 400000 in
theorem step_nil (w : World) (q : Value) : Calls Tryz.prog 62 #[.pointer none, q] w fun e w' => e = .returned (.bool false) ∧ w' = w := by
  go_enter Tryz.func62, Tryz.ntmps62
  go_wp2_with fail
  refine (isNone_nil' _).mono ?_
  rintro r w1 ⟨rfl, hw⟩
  rw [hw]
  clear hw w1
  go_wp2
  go_ret
  exact ⟨rfl, rfl⟩
set_option maxHeartbeats 400000 in
theorem step_done {w : World} {g : Nat} {x : Wk} (h : IsWk w g x) (hs : x.st = 2) (q : Value) : Calls Tryz.prog 62 #[.pointer (some ⟨g, 0, none⟩), q] w fun e w' => e = .returned (.bool true) ∧ w' = w := by
  have c0 := h.c0
  rw [hs] at c0
  have H := hid (isNone_no h (.inr hs))
  clear h hs
  go_enter Tryz.func62, Tryz.ntmps62
  go_wp2_with fail
  refine H.out.mono ?_
  rintro r w1 ⟨rfl, hw⟩
  rw [hw]
  clear hw w1 H
  go_wp2
  go_ret
  exact ⟨rfl, rfl⟩
set_option maxRecDepth 100000 in
set_option maxHeartbeats 1000000 in
theorem step_go {w : World} {p b g : Nat} {s : St} {x : Wk} {k : Nat} (h : Ws w p b g s x) (ok : WOk x) (hs : x.st = 1) (l0 : 0 ≤ x.ld) (l4 : x.ld < 4) (c : Cnt s k) (hk : k ≤ bnd) (u : U64 s.xs) :
    Calls Tryz.prog 62 #[.pointer (some ⟨g, 0, none⟩), .pointer (some ⟨p, 0, none⟩)] w fun e w' => e = .returned (.bool ((stepW s.xs x).st == 2)) ∧ Ws w' p b g (loadT s (P.at' x.fr x.pg x.lv)) (stepW s.xs x) ∧ But3 g p b w w' := by
  have c0 := h.wk.c0
  rw [hs] at c0
  have HW := hid h
  have H := hid (isNone_no h.wk (.inl hs))
  have HN := hid (next_go h.wk hs)
  obtain ⟨v, hv, hv'⟩ := u.at (P.at' x.fr x.pg x.lv)
  have e0 : (errV s (P.at' x.fr x.pg x.lv) == 0) = inB s.xs.length (P.at' x.fr x.pg x.lv) := by
    unfold errV there
    cases inB s.xs.length (P.at' x.fr x.pg x.lv) <;> rfl
  have e1 : loadV s (P.at' x.fr x.pg x.lv) = v := by rw [← hv]; rfl
  have e2 : ocW (ocx (errV s (P.at' x.fr x.pg x.lv) == 0) v x.pg x.wt x.lv) (putP x x.ld.toNat) = stepW s.xs x := by rw [e0, ← hv]; rfl
  have HD : Hid (∀ {w' : World}, Mem 124 w' p b s → Calls Tryz.prog 106 #[.pointer (some ⟨p, 0, none⟩), acV (nextA x)] w' fun e w'' => e = .returned (reV ⟨v, false, errV s (P.at' x.fr x.pg x.lv)⟩) ∧ Turns 124 p b w' w'' (loadT s (P.at' x.fr x.pg x.lv))) := hid (fun hm => by
    have := do_load hm c hk (P.at' x.fr x.pg x.lv) 0 0
    rw [e1] at this
    exact this)
  have HG : Hid (∀ {w' : World}, IsWk w' g x → Calls Tryz.prog 105 #[.pointer (some ⟨g, 0, none⟩), reV ⟨v, false, errV s (P.at' x.fr x.pg x.lv)⟩] w' fun r w'' => r = .returned (.tuple #[]) ∧ IsWk w'' g (stepW s.xs x) ∧ But g g w' w'') := hid (fun hm => by
    have := goOn_at hm ok l0 l4 v hv' false (errV s (P.at' x.fr x.pg x.lv))
    rw [e2] at this
    exact this)
  clear h c hk u ok l0 l4 hs e0 e1 e2 hv hv'
  generalize stepW s.xs x = y at *
  generalize loadT s (P.at' x.fr x.pg x.lv) = s' at *
  generalize errV s (P.at' x.fr x.pg x.lv) = er at *
  generalize nextA x = na at *
  go_enter Tryz.func62, Tryz.ntmps62
  go_wp2_with fail
  refine H.out.mono ?_
  rintro r w1 ⟨rfl, hw⟩
  rw [hw]
  clear hw w1 H
  go_wp2_with fail
  refine HN.out.mono ?_
  rintro r w1 ⟨rfl, hB⟩
  have HB := hid hB
  clear hB c0
  go_wp2_with fail
  refine (HD.out (HW.out.mem.below HB.out)).mono ?_
  rintro r w2 ⟨rfl, hT⟩
  have h2 : IsWk w2 g x := (HW.out.wk.below HB.out).but hT.2 HW.out.gp HW.out.gb
  have H2 := hid h2
  have HT := hid hT
  clear h2 hT
  go_wp2_with fail
  refine (HG.out H2.out).mono ?_
  rintro r w3 ⟨rfl, h3, B3⟩
  have c0 := h3.c0
  have hl := HT.out.1.lt
  have HE : Hid (Ws w3 p b g s' y ∧ But3 g p b w w3) := hid ⟨⟨HT.out.1.but B3 HW.out.gp.symm HW.out.gp.symm HW.out.gb.symm HW.out.gb.symm, h3, HW.out.gp, HW.out.gb⟩, ((But3.of_below HB.out).trans (But3.of_but HT.out.2)).trans (But3.of_one B3)⟩
  clear h3 B3 hl
  go_wp2
  go_ret
  exact ⟨rfl, HE.out⟩
end Go.Proofs.YtpfmmlbakbhklaaGreatDoor
