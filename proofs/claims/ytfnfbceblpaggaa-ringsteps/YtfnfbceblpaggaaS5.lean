/- What those who push and pop do in a step, and what they tell: functions of the words and of themselves alone. Conditions: they are such as Push or Pop gave; the counts are below 2^62. -/
import Derived.Test.YtfnfbceblpaggaaS3P
import Derived.Test.YtfnfbceblpaggaaS3G
import Derived.Test.YtfnfbceblpaggaaS4
namespace Go.Proofs.Ytfnfbceblpaggaa
open Go.RowKit


/-- All that was there is as it was, but for the blocks g, p and b. -/
structure But3 (g p b : Nat) (w w' : World) : Prop where
  os : w'.os = w.os
  tape : w'.tape = w.tape
  output : w'.output = w.output
  size : w.heap.size ≤ w'.heap.size
  block : ∀ k, k < w.heap.size → k ≠ g → k ≠ p → k ≠ b → w'.heap[k]? = w.heap[k]?
theorem But3.of_below {g p b : Nat} {w w' : World} (h : Below w.heap.size w w') : But3 g p b w w' := ⟨h.os, h.tape, h.output, h.size, fun k hk _ _ _ => h.block k hk⟩
theorem But3.of_but {g p b : Nat} {w w' : World} (h : But p b w w') : But3 g p b w w' := ⟨h.os, h.tape, h.output, h.size, fun k hk _ h1 h2 => h.block k hk h1 h2⟩
theorem But3.of_one {g p b : Nat} {w w' : World} (h : But g g w w') : But3 g p b w w' := ⟨h.os, h.tape, h.output, h.size, fun k hk h1 _ _ => h.block k hk h1 h1⟩
theorem But3.trans {g p b : Nat} {x y z : World} (h : But3 g p b x y) (k : But3 g p b y z) : But3 g p b x z :=
  ⟨k.os.trans h.os, k.tape.trans h.tape, k.output.trans h.output, Nat.le_trans h.size k.size, fun i hi a c d => (k.block i (Nat.lt_of_lt_of_le hi h.size) a c d).trans (h.block i hi a c d)⟩
theorem But3.bel {g p b : Nat} {w0 w w' : World} (h : But3 g p b w w') (k : Below w0.heap.size w0 w) (h1 : w0.heap.size ≤ g) (h2 : w0.heap.size ≤ p) (h3 : w0.heap.size ≤ b) : Below w0.heap.size w0 w' :=
  ⟨h.os.trans k.os, h.tape.trans k.tape, h.output.trans k.output, Nat.le_trans k.size h.size, fun i hi => (h.block i (Nat.lt_of_lt_of_le hi k.size) (by omega) (by omega) (by omega)).trans (k.block i hi)⟩


def cntA (pv : Option Int) (ad : Int) : Int := match pv with | some _ => ad | none => ad + 1
def leftV (pv : Option Int) (sz ps : Int) : Int := match pv with | some _ => add64 ps 1 | none => add64 ps sz
def moveA (pv : Option Int) (a : Int) : Ac := match pv with | some v => ⟨2, a, v, 0⟩ | none => ⟨1, a, 0, 0⟩
/-- The next act. -/
def pNext (x : Pr) : Ac :=
  if x.tn = 0 then ⟨1, cntA x.pv x.ad, 0, 0⟩
  else if x.tn = 1 then ⟨1, slotA x.ad x.sz x.ps, 0, 0⟩
  else if x.tn = 2 then ⟨3, cntA x.pv x.ad, x.ps, add64 x.ps 1⟩
  else if x.tn = 3 then moveA x.pv (slotA x.ad x.sz x.ps + 1)
  else if x.tn = 4 then ⟨2, slotA x.ad x.sz x.ps, leftV x.pv x.sz x.ps, 0⟩
  else ⟨0, 0, 0, 0⟩
/-- What it is behind its act. -/
def pGo (x : Pr) (r : Re) : Pr :=
  if r.e = 0 then
    if x.tn = 0 then { x with ps := r.v, tn := 1 }
    else if x.tn = 1 then { x with tn := bhT (difA r.v (opensV x.pv x.ps)) }
    else if x.tn = 2 then (if r.ok = true then { x with tn := 3 } else { x with tn := 0 })
    else if x.tn = 3 then { x with mv := r.v, tn := 4 }
    else { x with wh := true, tn := 5 }
  else { x with tn := 5 }
structure XOk (x : Pr) : Prop where
  ok : POk x
  t0 : 0 ≤ x.tn
  t1 : x.tn ≤ 5

theorem pnext_at {t : TypeId} {w : World} {g : Nat} {x : Pr} (h : IsPr t w g x) (ok : XOk x) :
    Calls Try.prog 34 #[.pointer (some ⟨g, 0, none⟩)] w fun e w' => e = .returned (acV (pNext x)) ∧ Below w.heap.size w w' := by
  obtain ⟨ad, sz, pv, tn, ps, mv, wh⟩ := x
  obtain ⟨ok, t0, t1⟩ := ok
  simp only [] at t0 t1
  by_cases h0 : tn = 0
  · subst h0; cases pv with
    | some v => exact nx0P h ok
    | none => exact nx0G h ok
  · by_cases h1 : tn = 1
    · subst h1; exact nx1 h ok
    · by_cases h2 : tn = 2
      · subst h2; cases pv with
        | some v => exact nx2P h ok
        | none => exact nx2G h ok
      · by_cases h3 : tn = 3
        · subst h3; cases pv with
          | some v => exact nx3P h ok
          | none => exact nx3G h ok
        · by_cases h4 : tn = 4
          · subst h4; cases pv with
            | some v => exact nx4P h ok
            | none => exact nx4G h ok
          · obtain rfl : tn = 5 := by omega
            exact nx5 h ok
theorem pgo_at {t : TypeId} {w : World} {g : Nat} {x : Pr} (h : IsPr t w g x) (ok : XOk x) (r : Re) (hz : x.tn ≠ 5) :
    Calls Try.prog 46 #[.pointer (some ⟨g, 0, none⟩), reV r] w fun e w' => e = .returned (.tuple #[]) ∧ IsPr t w' g (pGo x r) ∧ But g g w w' := by
  have t0 := ok.t0
  have t1 := ok.t1
  unfold pGo
  by_cases he : r.e = 0
  · rw [if_pos he]
    by_cases h0 : x.tn = 0
    · rw [if_pos h0]; exact go_0 h r he h0
    · rw [if_neg h0]
      by_cases h1 : x.tn = 1
      · rw [if_pos h1]; exact go_1 h r he h1
      · rw [if_neg h1]
        by_cases h2 : x.tn = 2
        · rw [if_pos h2]
          by_cases ho : r.ok = true
          · rw [if_pos ho]; exact go_2y h r he h2 ho
          · rw [if_neg ho]; exact go_2n h r he h2 (by simpa using ho)
        · rw [if_neg h2]
          by_cases h3 : x.tn = 3
          · rw [if_pos h3]; exact go_3 h r he h3
          · rw [if_neg h3]; exact go_4 h r he (by omega)
  · rw [if_neg he]; exact go_err h r (beq_eq_false_iff_ne.2 he)

/-- The state of words and of one who pushes or pops. -/
structure Hs (t : TypeId) (w : World) (p b g : Nat) (s : St) (x : Pr) : Prop where
  mem : Mem 77 w p b s
  pr : IsPr t w g x
  gp : g ≠ p
  gb : g ≠ b
theorem Hs.below {t : TypeId} {w w' : World} {p b g : Nat} {s : St} {x : Pr} (h : Hs t w p b g s x) (k : Below w.heap.size w w') : Hs t w' p b g s x := ⟨h.mem.below k, h.pr.below k, h.gp, h.gb⟩

def pT (s : St) (x : Pr) : St := if x.tn = 5 then s else doT s (pNext x)
def pX (s : St) (x : Pr) : Pr := if x.tn = 5 then x else pGo x (doR s (pNext x))

set_option maxRecDepth 100000 in
set_option maxHeartbeats 600000 in
theorem ps_0 {t : TypeId} {w : World} {p b g : Nat} {s : St} {x : Pr} (h : Hs t w p b g s x) (hz : x.tn = 5) :
    Calls Try.prog 36 #[.pointer (some ⟨g, 0, none⟩), .pointer (some ⟨p, 0, none⟩)] w fun e w' => e = .returned (.bool true) ∧ Hs t w' p b g s x ∧ But3 g p b w w' := by
  have HW := hid h
  have HD := hid (pDone_at h.pr)
  rw [hz, show ((5 : Int) == 5) = true from rfl] at HD
  clear h hz
  go_enter Try.func36, Try.ntmps36
  go_wp2_with fail
  refine (pNone_at HW.out.pr).mono ?_
  rintro e w1 ⟨rfl, hw1⟩
  rw [hw1]
  clear hw1 w1
  go_wp2_with fail
  refine HD.out.mono ?_
  rintro e w1 ⟨rfl, hw1⟩
  rw [hw1]
  clear hw1 w1
  go_wp2_with fail
  refine HD.out.mono ?_
  rintro e w1 ⟨rfl, hw1⟩
  rw [hw1]
  clear hw1 w1
  go_wp2
  go_ret
  exact ⟨rfl, HW.out, But3.of_below (Below.refl _ _)⟩

set_option maxRecDepth 100000 in
set_option maxHeartbeats 600000 in
theorem ps_go {t : TypeId} {w : World} {p b g : Nat} {s : St} {x : Pr} {k : Nat} (h : Hs t w p b g s x) (ok : XOk x) (c : Cnt s k) (hk : k ≤ bnd) (hz : x.tn ≠ 5) :
    Calls Try.prog 36 #[.pointer (some ⟨g, 0, none⟩), .pointer (some ⟨p, 0, none⟩)] w fun e w' => e = .returned (.bool ((pGo x (doR s (pNext x))).tn == 5)) ∧ Hs t w' p b g (doT s (pNext x)) (pGo x (doR s (pNext x))) ∧ But3 g p b w w' := by
  have HW := hid h
  have HD := hid (pDone_at h.pr)
  rw [show (x.tn == 5) = false from beq_eq_false_iff_ne.2 hz] at HD
  have HN := hid (pnext_at h.pr ok)
  have HA : Hid (∀ {w' : World}, Mem 77 w' p b s → Calls Try.prog 47 #[.pointer (some ⟨p, 0, none⟩), acV (pNext x)] w' fun e w'' => e = .returned (reV (doR s (pNext x))) ∧ Turns 77 p b w' w'' (doT s (pNext x))) := hid (fun hm => do_at hm c hk (pNext x))
  have HG : Hid (∀ {w' : World}, IsPr t w' g x → ∀ r, Calls Try.prog 46 #[.pointer (some ⟨g, 0, none⟩), reV r] w' fun e w'' => e = .returned (.tuple #[]) ∧ IsPr t w'' g (pGo x r) ∧ But g g w' w'') := hid (fun hm r => pgo_at hm ok r hz)
  clear h ok c hk hz
  generalize pNext x = a at *
  generalize doT s a = s' at *
  generalize doR s a = r at *
  obtain ⟨rv, ro, re⟩ := r
  obtain ⟨ak, ad, aa, ab⟩ := a
  generalize hx' : pGo x ⟨rv, ro, re⟩ = x'
  have HX := hid hx'
  clear hx'
  go_enter Try.func36, Try.ntmps36
  go_wp2_with fail
  refine (pNone_at HW.out.pr).mono ?_
  rintro e w1 ⟨rfl, hw1⟩
  rw [hw1]
  clear hw1 w1
  go_wp2_with fail
  refine HD.out.mono ?_
  rintro e w1 ⟨rfl, hw1⟩
  rw [hw1]
  clear hw1 w1
  go_wp2_with fail
  refine HN.out.mono ?_
  rintro e w2 ⟨rfl, K2⟩
  have H2 := hid (HW.out.below K2)
  have HB := hid K2
  clear K2 HN
  go_wp2_with fail
  refine (HA.out H2.out.mem).mono ?_
  rintro e w3 ⟨rfl, T⟩
  have h3 : Hs t w3 p b g s' x := ⟨T.1, H2.out.pr.keep (T.2.block _ H2.out.pr.lt H2.out.gp H2.out.gb), H2.out.gp, H2.out.gb⟩
  have H3 := hid h3
  have HB3 : Hid (But3 g p b w w3) := hid ((But3.of_below HB.out).trans (But3.of_but T.2))
  clear T h3 HB H2 HA
  go_wp2_with fail
  refine (HG.out H3.out.pr ⟨rv, ro, re⟩).mono ?_
  rintro e w4 ⟨rfl, h4, B4⟩
  rw [HX.out] at h4
  have H4 := hid h4
  have HB4 := hid B4
  clear h4 B4
  go_wp2_with fail
  refine (pDone_at H4.out).mono ?_
  rintro e w1 ⟨rfl, hw1⟩
  rw [hw1]
  clear hw1 w1
  go_wp2
  go_ret
  exact ⟨rfl, ⟨H3.out.mem.but HB4.out H3.out.gp.symm H3.out.gp.symm H3.out.gb.symm H3.out.gb.symm, H4.out, H3.out.gp, H3.out.gb⟩, HB3.out.trans (But3.of_one HB4.out)⟩

theorem pstep_at {t : TypeId} {w : World} {p b g : Nat} {s : St} {x : Pr} {k : Nat} (h : Hs t w p b g s x) (ok : XOk x) (c : Cnt s k) (hk : k ≤ bnd) :
    Calls Try.prog 36 #[.pointer (some ⟨g, 0, none⟩), .pointer (some ⟨p, 0, none⟩)] w fun e w' => e = .returned (.bool ((pX s x).tn == 5)) ∧ Hs t w' p b g (pT s x) (pX s x) ∧ But3 g p b w w' := by
  unfold pT pX
  by_cases hz : x.tn = 5
  · rw [if_pos hz, if_pos hz, hz]; exact ps_0 h hz
  · rw [if_neg hz, if_neg hz]; exact ps_go h ok c hk hz
end Go.Proofs.Ytfnfbceblpaggaa
