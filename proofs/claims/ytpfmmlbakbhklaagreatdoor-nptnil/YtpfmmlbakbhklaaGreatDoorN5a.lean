/- Of the iterator way: what next hands back; the region that reads an entry anew. Conditions: the words and frames lie in memory. -/
import Derived.Test.YtpfmmlbakbhklaaGreatDoorN4
import Derived.Test.YtpfmmlbakbhklaaGreatDoorX3
import Derived.RangeFuncNested
import Derived.RangeFuncBound
import Derived.RangeFuncCalls
import Derived.RangeFuncLeaves
import Derived.Shelf.Abstract
import Derived.Shelf.RegionOpen
import Derived.WalkKit
import Derived.OwnWalkIn
import Derived.TacticsInMore
import Derived.LoopNIn
import Derived.LoopIn
namespace Go.Proofs.YtpfmmlbakbhklaaGreatDoor
open Go.RowKit Go.Shelf
attribute [local go_sem] Oper.semAt_some

/-- Where a range over a way stands: the table that it came to last, if it has begun; words and frames. -/
structure Wy where
  last : Option (Int × Nat)
  sm : Sm
abbrev Xs := (Int × Nat) × P.En
def goOn (xs : List Int) (pg : Int) (lo : Nat) (p : Int × Nat) : Bool := decide (lo < p.2) && P.tb (en xs pg p.1 p.2)
/-- The table that comes next. -/
def Nxt (root pg : Int) (lo : Nat) (s : Wy) (p : Int × Nat) : Prop :=
  match s.last with
  | none => p = (root, 3)
  | some q => goOn s.sm.xs pg lo q = true ∧ p = ((en s.sm.xs pg q.1 q.2).f, q.2 - 1)
def FinW (pg : Int) (lo : Nat) (s : Wy) : Prop := ∃ q, s.last = some q ∧ goOn s.sm.xs pg lo q = false
def OkW (root pg : Int) (lo : Nat) (s : Wy) (x : Xs) : Prop := Nxt root pg lo s x.1 ∧ x.2 = en s.sm.xs pg x.1.1 x.1.2
def stX (pg : Int) (x : Xs) : Array Value := stC x.1.1 x.1.2 (P.at' x.1.1 pg x.1.2) x.2

/-- What the iterator's boxes hold, and what lies beside them. -/
structure Rd (u : Si) (t Bt Bl Bp : Nat) (o root pg : Int) (lo : Nat) (W : World) (sm : Sm) : Prop where
  bt : W.cell? ⟨Bt, 0, none⟩ = some (.pointer (some ⟨t, 0, none⟩))
  bl : W.cell? ⟨Bl, 0, none⟩ = some (.int .i64 lo)
  bp : W.cell? ⟨Bp, 0, none⟩ = some (.int .i64 pg)
  tb : IsT u W t 1 o root
  wo : ∃ k, Wo u W sm k
/-- The level that a box holds. -/
def lvIn (q : Nat) (W : World) : Nat := match W.cell? ⟨q, 1, none⟩ with | some (.int .i64 v) => v.toNat | _ => 0
theorem cell_kf {n : Nat} {A B : World} (h : Kf n A B) {q i : Nat} (hq : n ≤ q) (hl : q < A.heap.size) : B.cell? ⟨q, i, none⟩ = A.cell? ⟨q, i, none⟩ := World.cell?_of_block (h.block q hq hl)

theorem field97 (a b c d e f g : Value) (w : World) : (Instr.field 97 (.agg #[a, b, c, d, e, f, g]) 2).run Tryz.prog w = .ok (.agg #[d, e, f, g]) w := by kernel_rfl
/-- What next hands back, where it leads on, and where it does not. -/
theorem next_yes (fr : Int) (v : Nat) (e : P.En) (w : World) (hv : v ≤ 3) (h : nxB e v = true) : Calls Tryz.prog 90 #[.agg (tbC fr v), P.eV e] w fun r w' => r = .returned (.tuple #[.agg #[.int .i64 e.f, .int .i64 ((v - 1 : Nat) : Int)], .bool true]) ∧ Below w.heap.size w w' := by
  have := next_at fr v e w (by omega) (by omega)
  unfold nxV at this
  rw [h, if_pos rfl] at this
  have hz : (v : Int) - 1 = ((v - 1 : Nat) : Int) := by
    unfold nxB at h
    simp at h
    omega
  rw [hz] at this
  exact this
theorem next_no (fr : Int) (v : Nat) (e : P.En) (w : World) (hv : v ≤ 3) (h : nxB e v = false) : Calls Tryz.prog 90 #[.agg (tbC fr v), P.eV e] w fun r w' => r = .returned (.tuple #[.agg #[.int .i64 0, .int .i64 0], .bool false]) ∧ Below w.heap.size w w' := by
  have := next_at fr v e w (by omega) (by omega)
  unfold nxV at this
  rw [h, if_neg (by decide)] at this
  exact this
theorem next_some (fr : Int) (v : Nat) (e : P.En) (hv : v ≤ 3) : ∃ (nf : Int) (nv : Nat) (nb : Bool), (∀ w, Calls Tryz.prog 90 #[.agg (tbC fr v), P.eV e] w fun r w' => r = .returned (.tuple #[.agg #[.int .i64 nf, .int .i64 nv], .bool nb]) ∧ Below w.heap.size w w') ∧ nb = nxB e v ∧ (nb = true → nf = e.f ∧ nv = v - 1) ∧ nv ≤ 3 := by
  cases hb : nxB e v
  · exact ⟨0, 0, false, fun w => next_no fr v e w hv hb, rfl, fun h => (by cases h), by omega⟩
  · exact ⟨e.f, v - 1, true, fun w => next_yes fr v e w hv hb, rfl, fun _ => ⟨rfl, rfl⟩, by omega⟩
theorem nxB_nat {e : P.En} {v : Nat} : nxB e v = (decide (0 < v) && P.tb e) := by
  unfold nxB
  cases v with
  | zero => rfl
  | succ m =>
    have : (((m + 1 : Nat) : Int) == 0) = false := by rw [beq_eq_false_iff_ne]; omega
    rw [this]; simp

/-- A region of a piece of code. -/
def pickR (id : Nat) : Code → Option Code
  | .seq a b => match pickR id a with
    | some c => some c
    | none => pickR id b
  | .block _ c => pickR id c
  | .loop c => pickR id c
  | .scope c => pickR id c
  | .cond _ a b => match pickR id a with
    | some c => some c
    | none => pickR id b
  | .region n o d => bif Nat.beq n id then some (.region n o d) else none
  | _ => none
theorem at_0 {x0 : Oper} {l : List Oper} : (List.toArray (x0 :: l))[0]? = some x0 := rfl
theorem at_1 {x0 x1 : Oper} {l : List Oper} : (List.toArray (x0 :: x1 :: l))[1]? = some x1 := rfl
theorem at_2 {x0 x1 x2 : Oper} {l : List Oper} : (List.toArray (x0 :: x1 :: x2 :: l))[2]? = some x2 := rfl
theorem at_3 {x0 x1 x2 x3 : Oper} {l : List Oper} : (List.toArray (x0 :: x1 :: x2 :: x3 :: l))[3]? = some x3 := rfl
theorem at_4 {x0 x1 x2 x3 x4 : Oper} {l : List Oper} : (List.toArray (x0 :: x1 :: x2 :: x3 :: x4 :: l))[4]? = some x4 := rfl
theorem at_5 {x0 x1 x2 x3 x4 x5 : Oper} {l : List Oper} : (List.toArray (x0 :: x1 :: x2 :: x3 :: x4 :: x5 :: l))[5]? = some x5 := rfl
theorem at_6 {x0 x1 x2 x3 x4 x5 x6 : Oper} {l : List Oper} : (List.toArray (x0 :: x1 :: x2 :: x3 :: x4 :: x5 :: x6 :: l))[6]? = some x6 := rfl
theorem at_7 {x0 x1 x2 x3 x4 x5 x6 x7 : Oper} {l : List Oper} : (List.toArray (x0 :: x1 :: x2 :: x3 :: x4 :: x5 :: x6 :: x7 :: l))[7]? = some x7 := rfl
theorem at_8 {x0 x1 x2 x3 x4 x5 x6 x7 x8 : Oper} {l : List Oper} : (List.toArray (x0 :: x1 :: x2 :: x3 :: x4 :: x5 :: x6 :: x7 :: x8 :: l))[8]? = some x8 := rfl
theorem at_9 {x0 x1 x2 x3 x4 x5 x6 x7 x8 x9 : Oper} {l : List Oper} : (List.toArray (x0 :: x1 :: x2 :: x3 :: x4 :: x5 :: x6 :: x7 :: x8 :: x9 :: l))[9]? = some x9 := rfl
theorem at_10 {x0 x1 x2 x3 x4 x5 x6 x7 x8 x9 x10 : Oper} {l : List Oper} : (List.toArray (x0 :: x1 :: x2 :: x3 :: x4 :: x5 :: x6 :: x7 :: x8 :: x9 :: x10 :: l))[10]? = some x10 := rfl
theorem at_11 {x0 x1 x2 x3 x4 x5 x6 x7 x8 x9 x10 x11 : Oper} {l : List Oper} : (List.toArray (x0 :: x1 :: x2 :: x3 :: x4 :: x5 :: x6 :: x7 :: x8 :: x9 :: x10 :: x11 :: l))[11]? = some x11 := rfl
set_option maxRecDepth 100000 in
set_option maxHeartbeats 4000000 in
theorem reg3 {Q : Exit → Act → World → Prop} {w : World} {t Bt Bp q : Nat} {pg fr a2 er ef nf : Int} {v nv : Nat} {ep el nb : Bool} {c0 c2 c4 c6 c7 c8 c9 c10 c11 c12 c13 c14 c15 c16 c17 c18 c19 c20 c21 c22 c23 c24 c25 c26 c27 c28 c29 c30 c31 c32 : Value}
    (q0 : w.drew.cell? ⟨q, 0, none⟩ = some (.int .i64 fr)) (q1 : w.drew.cell? ⟨q, 1, none⟩ = some (.int .i64 v)) (r0 : w.drew.cell? ⟨Bt, 0, none⟩ = some (.pointer (some ⟨t, 0, none⟩))) (r2 : w.drew.cell? ⟨Bp, 0, none⟩ = some (.int .i64 pg))
    (HQ : Hid (w.drew.heap[q]? = some (.cells #[.int .i64 fr, .int .i64 v] 93 (0, 0))))
    (HS : Hid (∀ w', Below w.drew.heap.size w.drew w' → w'.cell? ⟨q, 0, none⟩ = some (.int .i64 fr) ∧ w'.cell? ⟨q, 1, none⟩ = some (.int .i64 v) ∧ w'.cell? ⟨Bt, 0, none⟩ = some (.pointer (some ⟨t, 0, none⟩)) ∧ w'.cell? ⟨Bp, 0, none⟩ = some (.int .i64 pg)))
    (HST : Hid (Calls Tryz.prog 136 #[.pointer (some ⟨t, 0, none⟩), .agg #[.int .i64 fr, .int .i64 v], .int .i64 pg] w.drew fun r w' => r = .returned (.agg #[.int .i64 fr, .int .i64 v, .int .i64 a2, .bool ep, .int .i64 er, .bool el, .int .i64 ef]) ∧ Below w.drew.heap.size w.drew w'))
    (HNX : Hid (∀ W, Calls Tryz.prog 90 #[.agg #[.int .i64 fr, .int .i64 v], .agg #[.bool ep, .int .i64 er, .bool el, .int .i64 ef]] W fun r w' => r = .returned (.tuple #[.agg #[.int .i64 nf, .int .i64 nv], .bool nb]) ∧ Below W.heap.size W w'))
    (hP : ∀ d c a v w, Q (.panic c) (a.put (some d) v) w → Q (.panic c) a w)
    (hK : ∀ (u23 u24 u25 u26 u27 u28 u29 u30 u31 u32 : Value) (w' : World), Below w.drew.heap.size w.drew w' → Q .normal ⟨#[c0, .pointer (some ⟨Bt, 0, none⟩), c2, .pointer (some ⟨Bp, 0, none⟩), c4, .pointer (some ⟨q, 0, none⟩), .bool nb, c7, c8, c9, c10, c11, c12, c13, c14, c15, c16, c17, c18, c19, c20, c21, c22, u23, u24, u25, u26, u27, u28, u29, u30, u31, u32], []⟩ ((w'.setCell ⟨q, 0, none⟩ (.int .i64 nf)).setCell ⟨q, 1, none⟩ (.int .i64 nv))) :
    Code.wp Tryz.prog ((Tryz.f135.body.bind (pickR 3)).getD .skip) Q ⟨#[c0, .pointer (some ⟨Bt, 0, none⟩), c2, .pointer (some ⟨Bp, 0, none⟩), c4, .pointer (some ⟨q, 0, none⟩), c6, c7, c8, c9, c10, c11, c12, c13, c14, c15, c16, c17, c18, c19, c20, c21, c22, c23, c24, c25, c26, c27, c28, c29, c30, c31, c32], []⟩ w := by
  have HK := hid hK
  have HP := hid hP
  clear hK hP
  have hfld := fun W => field97 (.int .i64 fr) (.int .i64 v) (.int .i64 a2) (.bool ep) (.int .i64 er) (.bool el) (.int .i64 ef) W
  conv => arg 2; whnf
  refine wp_region_any (by kernel_rfl) ?_
  refine any_of_T (S := fun w' => w'.cell? ⟨q, 0, none⟩ = some (.int .i64 fr) ∧ w'.cell? ⟨q, 1, none⟩ = some (.int .i64 v) ∧ w'.cell? ⟨Bt, 0, none⟩ = some (.pointer (some ⟨t, 0, none⟩)) ∧ w'.cell? ⟨Bp, 0, none⟩ = some (.int .i64 pg)) (c := 6) _ _ _ _ ?_
  refine T_take (i := 0) (v := .agg #[.int .i64 fr, .int .i64 v]) at_0 (by kernel_rfl) (by kernel_rfl) (by kernel_rfl) (fun _ _ _ h => HP.out _ _ _ _ _ h) (fun l hl h0 => not_ready h0 at_6 (by kernel_rfl)) (Cl.start 0) (by decide) (Or.inl ⟨by rfl, ?_⟩) ⟨q0, q1, r0, r2⟩ (fun hcl0 => ?_)
  · intro w' hw'
    obtain ⟨a0, a1, a2, a3⟩ := hw'
    go_simp
  (try simp only [Act.put, List.setIfInBounds_toArray, List.set_cons_zero, List.set_cons_succ])
  refine T_take (i := 1) (v := .pointer (some ⟨t, 0, none⟩)) at_1 (by kernel_rfl) (by kernel_rfl) (by kernel_rfl) (fun _ _ _ h => HP.out _ _ _ _ _ h) (fun l hl h0 => not_ready (hl.up (hl.up h0 at_4 (by kernel_rfl)) at_5 (by kernel_rfl)) at_6 (by kernel_rfl)) hcl0 (by decide) (Or.inl ⟨by rfl, ?_⟩) ⟨q0, q1, r0, r2⟩ (fun hcl1 => ?_)
  · intro w' hw'
    obtain ⟨a0, a1, a2, a3⟩ := hw'
    go_simp
  (try simp only [Act.put, List.setIfInBounds_toArray, List.set_cons_zero, List.set_cons_succ])
  refine T_take (i := 2) (v := .agg #[.int .i64 fr, .int .i64 v]) at_2 (by kernel_rfl) (by kernel_rfl) (by kernel_rfl) (fun _ _ _ h => HP.out _ _ _ _ _ h) (fun l hl h0 => not_ready (hl.up (hl.up h0 at_4 (by kernel_rfl)) at_5 (by kernel_rfl)) at_6 (by kernel_rfl)) hcl1 (by decide) (Or.inl ⟨by rfl, ?_⟩) ⟨q0, q1, r0, r2⟩ (fun hcl2 => ?_)
  · intro w' hw'
    obtain ⟨a0, a1, a2, a3⟩ := hw'
    go_simp
  (try simp only [Act.put, List.setIfInBounds_toArray, List.set_cons_zero, List.set_cons_succ])
  refine T_take (i := 3) (v := .int .i64 pg) at_3 (by kernel_rfl) (by kernel_rfl) (by kernel_rfl) (fun _ _ _ h => HP.out _ _ _ _ _ h) (fun l hl h0 => not_ready (hl.up (hl.up h0 at_4 (by kernel_rfl)) at_5 (by kernel_rfl)) at_6 (by kernel_rfl)) hcl2 (by decide) (Or.inl ⟨by rfl, ?_⟩) ⟨q0, q1, r0, r2⟩ (fun hcl3 => ?_)
  · intro w' hw'
    obtain ⟨a0, a1, a2, a3⟩ := hw'
    go_simp
  (try simp only [Act.put, List.setIfInBounds_toArray, List.set_cons_zero, List.set_cons_succ])
  refine T_one (i := 4) at_4 (by kernel_rfl) (by decide) (fun K' hK => ?_)
  go_simp
  go_wp2_with (go_at_call 136; refine HST.out.mono ?_; rintro r w4 ⟨rfl, hB4⟩)
  have HB4 := hid hB4
  refine hK.out _ _ (HS.out _ hB4) ?_
  clear hK K' hB4
  (try simp only [Act.put, List.setIfInBounds_toArray, List.set_cons_zero, List.set_cons_succ])
  refine T_one (i := 5) at_5 (by kernel_rfl) (by decide) (fun K' hK => ?_)
  go_simp
  refine hK.out _ _ (HS.out _ HB4.out) ?_
  clear hK K'
  (try simp only [Act.put, List.setIfInBounds_toArray, List.set_cons_zero, List.set_cons_succ])
  refine T_turn at_6 (by kernel_rfl) (fun K' hK => ?_)
  go_simp
  go_wp2_with (go_at_call 90; refine (HNX.out _).mono ?_; rintro r w5 ⟨rfl, hB5⟩)
  have HB5 := hid (P.bgo HB4.out hB5)
  refine hK.out _ _ ?_
  clear hK K' hB5
  (try simp only [Act.put, List.setIfInBounds_toArray, List.set_cons_zero, List.set_cons_succ])
  have f0 := P.free_of (i := 0) (P.stay HB5.out HQ.out)
  have f1 := P.free_of (i := 1) (P.stay HB5.out HQ.out)
  obtain ⟨b0, b1, -⟩ := HS.out _ HB5.out
  refine any_one (i := 7) at_7 (by kernel_rfl) (fun K' hK => ?_)
  go_simp
  refine hK.out _ _ ?_
  clear hK K'
  (try simp only [Act.put, List.setIfInBounds_toArray, List.set_cons_zero, List.set_cons_succ])
  refine wpAny_take (i := 8) (v := .agg #[.int .i64 nf, .int .i64 nv]) at_8 (by kernel_rfl) (by kernel_rfl) (by kernel_rfl) (fun _ _ _ h => HP.out _ _ _ _ _ h) (Or.inl ⟨by rfl, ?_⟩) ?_
  · intro w'
    go_simp
  (try simp only [Act.put, List.setIfInBounds_toArray, List.set_cons_zero, List.set_cons_succ])
  refine wpAny_take (i := 9) (v := .bool nb) at_9 (by kernel_rfl) (by kernel_rfl) (by kernel_rfl) (fun _ _ _ h => HP.out _ _ _ _ _ h) (Or.inl ⟨by rfl, ?_⟩) ?_
  · intro w'
    go_simp
  (try simp only [Act.put, List.setIfInBounds_toArray, List.set_cons_zero, List.set_cons_succ])
  refine any_one (i := 10) at_10 (by kernel_rfl) (fun K' hK => ?_)
  go_simp
  refine hK.out _ _ ?_
  clear hK K'
  (try simp only [Act.put, List.setIfInBounds_toArray, List.set_cons_zero, List.set_cons_succ])
  refine any_one (i := 11) at_11 (by kernel_rfl) (fun K' hK => ?_)
  go_simp
  refine hK.out _ _ ?_
  clear hK K'
  (try simp only [Act.put, List.setIfInBounds_toArray, List.set_cons_zero, List.set_cons_succ])
  refine wpAny_done (by kernel_rfl) ?_ _
  exact HK.out _ _ _ _ _ _ _ _ _ _ _ HB5.out
end Go.Proofs.YtpfmmlbakbhklaaGreatDoor
