/- What tasks do in a step, and what they tell: functions of the words and of themselves alone. Conditions: they are such as Push, Pop or Steal gave; the counts are below 2^62. -/
import Derived.Test.YtmglacaikpcjhaaS3A
import Derived.Test.YtmglacaikpcjhaaS3B
import Derived.Test.YtmglacaikpcjhaaS4P
import Derived.Test.YtmglacaikpcjhaaS4G
import Derived.Test.YtmglacaikpcjhaaS4G2
import Derived.Test.YtmglacaikpcjhaaS4S
import Derived.Test.YtmglacaikpcjhaaS4K
namespace Go.Proofs.Ytmglacaikpcjhaa
open Go.RowKit

/-- All that was there is as it was, but for the blocks g, p and b. -/
structure But3 (g p b : Nat) (w w' : World) : Prop where
  os : w'.os = w.os
  tape : w'.tape = w.tape
  output : w'.output = w.output
  size : w.heap.size ≤ w'.heap.size
  block : ∀ k, k < w.heap.size → k ≠ g → k ≠ p → k ≠ b → w'.heap[k]? = w.heap[k]?
theorem But3.of_below {g p b : Nat} {w w' : World} (h : Below w.heap.size w w') : But3 g p b w w' := ⟨h.os, h.tape, h.output, h.size, fun k hk _ _ _ => h.block k hk⟩
theorem But3.of_but {g p b : Nat} {w w' : World} (h : But p b w w') : But3 g p b w w' := ⟨h.os, h.tape, h.output, h.size, fun k hk _ h1 h2 => h.block k hk h1 h2⟩
theorem But3.of_one {g p b : Nat} {w w' : World} (h : But g g w w') : But3 g p b w w' := ⟨h.os, h.tape, h.output, h.size, fun k hk h1 _ _ => h.block k hk h1 h1⟩
theorem But3.trans {g p b : Nat} {x y z : World} (h : But3 g p b x y) (k : But3 g p b y z) : But3 g p b x z :=
  ⟨k.os.trans h.os, k.tape.trans h.tape, k.output.trans h.output, Nat.le_trans h.size k.size, fun i hi a c d => (k.block i (Nat.lt_of_lt_of_le hi h.size) a c d).trans (h.block i hi a c d)⟩
theorem But3.bel {g p b : Nat} {w0 w w' : World} (h : But3 g p b w w') (k : Below w0.heap.size w0 w) (h1 : w0.heap.size ≤ g) (h2 : w0.heap.size ≤ p) (h3 : w0.heap.size ≤ b) : Below w0.heap.size w0 w' :=
  ⟨h.os.trans k.os, h.tape.trans k.tape, h.output.trans k.output, Nat.le_trans k.size h.size, fun i hi => (h.block i (Nat.lt_of_lt_of_le hi k.size) (by omega) (by omega) (by omega)).trans (k.block i hi)⟩
theorem But3.but {g p b : Nat} {w w1 w2 : World} (h : But p b w w1) (k : But3 g p b w1 w2) (hg : w.heap.size ≤ g) : But p b w w2 :=
  ⟨k.os.trans h.os, k.tape.trans h.tape, k.output.trans h.output, Nat.le_trans h.size k.size, fun i hi a c => (k.block i (Nat.lt_of_lt_of_le hi h.size) (by omega) a c).trans (h.block i hi a c)⟩

def posV (kd : Kd) (tp bt : Int) : Int := match kd with | .push _ => bt | .pop => bt | .steal => tp
def moveA (kd : Kd) (a : Int) : Ac := match kd with | .push v => ⟨2, a, v, 0⟩ | .pop => ⟨1, a, 0, 0⟩ | .steal => ⟨1, a, 0, 0⟩
/-- The next act. -/
def tNext (x : Tk) : Ac :=
  if x.tn = 0 then ⟨1, x.ad, 0, 0⟩
  else if x.tn = 1 then ⟨1, x.ad + 1, 0, 0⟩
  else if x.tn = 2 then ⟨2, x.ad + 1, x.bt, 0⟩
  else if x.tn = 3 then moveA x.kd (slotA x.ad x.sz (posV x.kd x.tp x.bt))
  else if x.tn = 4 then ⟨3, x.ad, x.tp, add64 x.tp 1⟩
  else if x.tn = 5 then ⟨2, x.ad + 1, add64 x.bt 1, 0⟩
  else ⟨0, 0, 0, 0⟩
/-- A push behind its act. -/
def goP (v : Int) (x : Tk) (r : Re) : Tk :=
  if x.tn = 1 then { x with bt := r.v, tn := 0 }
  else if x.tn = 0 then (if x.sz ≤ difA x.bt r.v then { x with hs := false, tn := 6 } else { x with tn := 3 })
  else if x.tn = 3 then { x with tn := 5 }
  else { x with vl := v, hs := true, tn := 6 }
/-- A pop behind its act. -/
def goG (x : Tk) (r : Re) : Tk :=
  if x.tn = 1 then { x with bt := dec64 r.v, tn := 2 }
  else if x.tn = 2 then { x with tn := 0 }
  else if x.tn = 0 then (if 0 < difA r.v x.bt then { x with tp := r.v, tn := 5 } else { x with tp := r.v, tn := 3 })
  else if x.tn = 3 then (if difA x.tp x.bt < 0 then { x with vl := r.v, hs := true, tn := 6 } else { x with vl := r.v, tn := 4 })
  else if x.tn = 4 then { x with hs := r.ok, tn := 5 }
  else { x with tn := 6 }
/-- A steal behind its act. -/
def goS (x : Tk) (r : Re) : Tk :=
  if x.tn = 0 then { x with tp := r.v, tn := 1 }
  else if x.tn = 1 then (if 0 ≤ difA x.tp r.v then { x with hs := false, tn := 6 } else { x with tn := 3 })
  else if x.tn = 3 then { x with vl := r.v, tn := 4 }
  else { x with hs := r.ok, tn := 6 }
/-- What it is behind its act. -/
def tGo (x : Tk) (r : Re) : Tk :=
  if r.e = 0 then (match x.kd with | .push v => goP v x r | .pop => goG x r | .steal => goS x r)
  else { x with hs := false, tn := 6 }
def turnOk (kd : Kd) (tn : Int) : Prop := match kd with
  | .push _ => tn = 0 ∨ tn = 1 ∨ tn = 3 ∨ tn = 5 ∨ tn = 6
  | .pop => tn = 0 ∨ tn = 1 ∨ tn = 2 ∨ tn = 3 ∨ tn = 4 ∨ tn = 5 ∨ tn = 6
  | .steal => tn = 0 ∨ tn = 1 ∨ tn = 3 ∨ tn = 4 ∨ tn = 6
structure XOk (x : Tk) : Prop where
  ok : POk x
  t : turnOk x.kd x.tn
theorem XOk.range {x : Tk} (h : XOk x) : 0 ≤ x.tn ∧ x.tn ≤ 6 := by
  have := h.t
  unfold turnOk at this
  split at this <;> omega

theorem tnext_at {w : World} {g : Nat} {x : Tk} (h : IsTk w g x) (ok : XOk x) :
    Calls Try.prog 16 #[.pointer (some ⟨g, 0, none⟩)] w fun e w' => e = .returned (acV (tNext x)) ∧ Below w.heap.size w w' := by
  have hr := ok.range
  obtain ⟨ad, sz, kd, tn, tp, bt, vl, hs⟩ := x
  obtain ⟨ok, _⟩ := ok
  simp only [] at hr
  by_cases h0 : tn = 0
  · subst h0; exact nx0 h ok
  · by_cases h1 : tn = 1
    · subst h1; exact nx1 h ok
    · by_cases h2 : tn = 2
      · subst h2; exact nx2 h ok
      · by_cases h3 : tn = 3
        · subst h3; cases kd with
          | push v => exact nx3P h ok
          | pop => exact nx3G h ok
          | steal => exact nx3S h ok
        · by_cases h4 : tn = 4
          · subst h4; exact nx4 h ok
          · by_cases h5 : tn = 5
            · subst h5; exact nx5 h ok
            · obtain rfl : tn = 6 := by omega
              exact nx6 h
theorem gp_at {w : World} {g : Nat} {ad sz v tn tp bt vl : Int} {hs : Bool} (h : IsTk w g ⟨ad, sz, .push v, tn, tp, bt, vl, hs⟩) (ht : tn = 0 ∨ tn = 1 ∨ tn = 3 ∨ tn = 5) (rv : Int) (ro : Bool) :
    Calls Try.prog 50 #[.pointer (some ⟨g, 0, none⟩), .int .u64 v, .agg #[.int .u64 rv, .bool ro, .int .i64 0]] w fun e w' => e = .returned (.tuple #[]) ∧ IsTk w' g (goP v ⟨ad, sz, .push v, tn, tp, bt, vl, hs⟩ ⟨rv, ro, 0⟩) ∧ But g g w w' := by
  rcases ht with rfl | rfl | rfl | rfl
  · by_cases hc : sz ≤ difA bt rv
    · have := gp_0y h rv ro 0 hc
      simpa [goP, hc] using this
    · have := gp_0n h rv ro 0 hc
      simpa [goP, hc] using this
  · exact gp_1 h rv ro 0
  · exact gp_3 h rv ro 0
  · exact gp_5 h rv ro 0
theorem gg_at {w : World} {g : Nat} {ad sz tn tp bt vl : Int} {hs : Bool} (h : IsTk w g ⟨ad, sz, .pop, tn, tp, bt, vl, hs⟩) (ht : tn = 0 ∨ tn = 1 ∨ tn = 2 ∨ tn = 3 ∨ tn = 4 ∨ tn = 5) (rv : Int) (ro : Bool) :
    Calls Try.prog 51 #[.pointer (some ⟨g, 0, none⟩), .agg #[.int .u64 rv, .bool ro, .int .i64 0]] w fun e w' => e = .returned (.tuple #[]) ∧ IsTk w' g (goG ⟨ad, sz, .pop, tn, tp, bt, vl, hs⟩ ⟨rv, ro, 0⟩) ∧ But g g w w' := by
  rcases ht with rfl | rfl | rfl | rfl | rfl | rfl
  · by_cases hc : 0 < difA rv bt
    · have := gg_0y h rv ro 0 hc
      simpa [goG, hc] using this
    · have := gg_0n h rv ro 0 hc
      simpa [goG, hc] using this
  · exact gg_1 h rv ro 0
  · exact gg_2 h rv ro 0
  · by_cases hc : difA tp bt < 0
    · have := gg_3y h rv ro 0 hc
      simpa [goG, hc] using this
    · have := gg_3n h rv ro 0 hc
      simpa [goG, hc] using this
  · exact gg_4 h rv ro 0
  · exact gg_5 h rv ro 0
theorem gt_at {w : World} {g : Nat} {ad sz tn tp bt vl : Int} {hs : Bool} (h : IsTk w g ⟨ad, sz, .steal, tn, tp, bt, vl, hs⟩) (ht : tn = 0 ∨ tn = 1 ∨ tn = 3 ∨ tn = 4) (rv : Int) (ro : Bool) :
    Calls Try.prog 52 #[.pointer (some ⟨g, 0, none⟩), .agg #[.int .u64 rv, .bool ro, .int .i64 0]] w fun e w' => e = .returned (.tuple #[]) ∧ IsTk w' g (goS ⟨ad, sz, .steal, tn, tp, bt, vl, hs⟩ ⟨rv, ro, 0⟩) ∧ But g g w w' := by
  rcases ht with rfl | rfl | rfl | rfl
  · exact gt_0 h rv ro 0
  · by_cases hc : 0 ≤ difA tp rv
    · have := gt_1y h rv ro 0 hc
      simpa [goS, hc] using this
    · have := gt_1n h rv ro 0 hc
      simpa [goS, hc] using this
  · exact gt_3 h rv ro 0
  · exact gt_4 h rv ro 0
theorem tgo_at {w : World} {g : Nat} {x : Tk} (h : IsTk w g x) (ok : XOk x) (r : Re) (hz : x.tn ≠ 6) :
    Calls Try.prog 37 #[.pointer (some ⟨g, 0, none⟩), reV r] w fun e w' => e = .returned (.tuple #[]) ∧ IsTk w' g (tGo x r) ∧ But g g w w' := by
  obtain ⟨_, ht⟩ := ok
  obtain ⟨ad, sz, kd, tn, tp, bt, vl, hs⟩ := x
  obtain ⟨rv, ro, re⟩ := r
  simp only [turnOk] at ht hz
  unfold tGo
  by_cases he : re = 0
  · subst he
    rw [if_pos rfl]
    cases kd with
    | push v => exact gk_P h rv ro (fun h' => gp_at h' (by simp only [] at ht; omega) rv ro)
    | pop => exact gk_G h rv ro (fun h' => gg_at h' (by simp only [] at ht; omega) rv ro)
    | steal => exact gk_S h rv ro (fun h' => gt_at h' (by simp only [] at ht; omega) rv ro)
  · rw [if_neg he]; exact gk_err h rv ro re (beq_eq_false_iff_ne.2 he)

/-- The state of words and of a task. -/
structure Hs (w : World) (p b g : Nat) (s : St) (x : Tk) : Prop where
  mem : Mem 78 w p b s
  tk : IsTk w g x
  gp : g ≠ p
  gb : g ≠ b
theorem Hs.below {w w' : World} {p b g : Nat} {s : St} {x : Tk} (h : Hs w p b g s x) (k : Below w.heap.size w w') : Hs w' p b g s x := ⟨h.mem.below k, h.tk.below k, h.gp, h.gb⟩

def tT (s : St) (x : Tk) : St := if x.tn = 6 then s else doT s (tNext x)
def tX (s : St) (x : Tk) : Tk := if x.tn = 6 then x else tGo x (doR s (tNext x))

set_option maxRecDepth 100000 in
set_option maxHeartbeats 600000 in
theorem ts_0 {w : World} {p b g : Nat} {s : St} {x : Tk} (h : Hs w p b g s x) (hz : x.tn = 6) :
    Calls Try.prog 18 #[.pointer (some ⟨g, 0, none⟩), .pointer (some ⟨p, 0, none⟩)] w fun e w' => e = .returned (.bool true) ∧ Hs w' p b g s x ∧ But3 g p b w w' := by
  have HW := hid h
  have HD := hid (tDone_at h.tk)
  rw [hz, show ((6 : Int) == 6) = true from rfl] at HD
  clear h hz
  go_enter Try.func18, Try.ntmps18
  go_wp2_with fail
  refine (tNone_at HW.out.tk).mono ?_
  rintro e w1 ⟨rfl, hw1⟩
  rw [hw1]
  clear hw1 w1
  go_wp2_with fail
  refine HD.out.mono ?_
  rintro e w1 ⟨rfl, hw1⟩
  rw [hw1]
  clear hw1 w1
  go_wp2_with fail
  refine HD.out.mono ?_
  rintro e w1 ⟨rfl, hw1⟩
  rw [hw1]
  clear hw1 w1
  go_wp2
  go_ret
  exact ⟨rfl, HW.out, But3.of_below (Below.refl _ _)⟩

set_option maxRecDepth 100000 in
set_option maxHeartbeats 600000 in
theorem ts_go {w : World} {p b g : Nat} {s : St} {x : Tk} {k : Nat} (h : Hs w p b g s x) (ok : XOk x) (c : Cnt s k) (hk : k ≤ bnd) (hz : x.tn ≠ 6) :
    Calls Try.prog 18 #[.pointer (some ⟨g, 0, none⟩), .pointer (some ⟨p, 0, none⟩)] w fun e w' => e = .returned (.bool ((tGo x (doR s (tNext x))).tn == 6)) ∧ Hs w' p b g (doT s (tNext x)) (tGo x (doR s (tNext x))) ∧ But3 g p b w w' := by
  have HW := hid h
  have HD := hid (tDone_at h.tk)
  rw [show (x.tn == 6) = false from beq_eq_false_iff_ne.2 hz] at HD
  have HN := hid (tnext_at h.tk ok)
  have HA : Hid (∀ {w' : World}, Mem 78 w' p b s → Calls Try.prog 38 #[.pointer (some ⟨p, 0, none⟩), acV (tNext x)] w' fun e w'' => e = .returned (reV (doR s (tNext x))) ∧ Turns 78 p b w' w'' (doT s (tNext x))) := hid (fun hm => do_at hm c hk (tNext x))
  have HG : Hid (∀ {w' : World}, IsTk w' g x → ∀ r, Calls Try.prog 37 #[.pointer (some ⟨g, 0, none⟩), reV r] w' fun e w'' => e = .returned (.tuple #[]) ∧ IsTk w'' g (tGo x r) ∧ But g g w' w'') := hid (fun hm r => tgo_at hm ok r hz)
  clear h ok c hk hz
  generalize tNext x = a at *
  generalize doT s a = s' at *
  generalize doR s a = r at *
  obtain ⟨rv, ro, re⟩ := r
  obtain ⟨ak, ad, aa, ab⟩ := a
  generalize hx' : tGo x ⟨rv, ro, re⟩ = x'
  have HX := hid hx'
  clear hx'
  go_enter Try.func18, Try.ntmps18
  go_wp2_with fail
  refine (tNone_at HW.out.tk).mono ?_
  rintro e w1 ⟨rfl, hw1⟩
  rw [hw1]
  clear hw1 w1
  go_wp2_with fail
  refine HD.out.mono ?_
  rintro e w1 ⟨rfl, hw1⟩
  rw [hw1]
  clear hw1 w1
  go_wp2_with fail
  refine HN.out.mono ?_
  rintro e w2 ⟨rfl, K2⟩
  have H2 := hid (HW.out.below K2)
  have HB := hid K2
  clear K2 HN
  go_wp2_with fail
  refine (HA.out H2.out.mem).mono ?_
  rintro e w3 ⟨rfl, T⟩
  have h3 : Hs w3 p b g s' x := ⟨T.1, H2.out.tk.keep (T.2.block _ H2.out.tk.lt H2.out.gp H2.out.gb), H2.out.gp, H2.out.gb⟩
  have H3 := hid h3
  have HB3 : Hid (But3 g p b w w3) := hid ((But3.of_below HB.out).trans (But3.of_but T.2))
  clear T h3 HB H2 HA
  go_wp2_with fail
  refine (HG.out H3.out.tk ⟨rv, ro, re⟩).mono ?_
  rintro e w4 ⟨rfl, h4, B4⟩
  rw [HX.out] at h4
  have H4 := hid h4
  have HB4 := hid B4
  clear h4 B4
  go_wp2_with fail
  refine (tDone_at H4.out).mono ?_
  rintro e w1 ⟨rfl, hw1⟩
  rw [hw1]
  clear hw1 w1
  go_wp2
  go_ret
  exact ⟨rfl, ⟨H3.out.mem.but HB4.out H3.out.gp.symm H3.out.gp.symm H3.out.gb.symm H3.out.gb.symm, H4.out, H3.out.gp, H3.out.gb⟩, HB3.out.trans (But3.of_one HB4.out)⟩

theorem tstep_at {w : World} {p b g : Nat} {s : St} {x : Tk} {k : Nat} (h : Hs w p b g s x) (ok : XOk x) (c : Cnt s k) (hk : k ≤ bnd) :
    Calls Try.prog 18 #[.pointer (some ⟨g, 0, none⟩), .pointer (some ⟨p, 0, none⟩)] w fun e w' => e = .returned (.bool ((tX s x).tn == 6)) ∧ Hs w' p b g (tT s x) (tX s x) ∧ But3 g p b w w' := by
  unfold tT tX
  by_cases hz : x.tn = 6
  · rw [if_pos hz, if_pos hz, hz]; exact ts_0 h hz
  · rw [if_neg hz, if_neg hz]; exact ts_go h ok c hk hz
end Go.Proofs.Ytmglacaikpcjhaa
