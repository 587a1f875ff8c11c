/- Of the iterator way: what next hands back; the region that reads an entry anew. Conditions: the words and frames lie in memory. The iterator way: what it hands on, whatever each round does with the words and frames, as long as they lie in memory behind it. Conditions: the words and frames lie in memory. What way and end return: where a page's way ends. Conditions: the words and frames lie in memory; the tables are live. What newTable and hang return and leave: a frame is taken, its words are laid, an entry leads to it. Conditions: the words and frames lie in memory; few calls have been counted. What isEmpty and retire return and leave. Conditions: the words and frames lie in memory. What find, Query and alone return and leave. Conditions: the words and frames lie in memory; the tables are live; few calls have been counted. -/
import Derived.Test.YtpfmmlbakbhklaaGreatDoorBJ
import Derived.Test.YtpfmmlbakbhklaaGreatDoorBI
import Derived.Test.YtpfmmlbakbhklaaGreatDoorBG
import Derived.RangeFuncNested
import Derived.RangeFuncBound
import Derived.RangeFuncCalls
import Derived.RangeFuncLeaves
import Derived.Shelf.Abstract
import Derived.Shelf.RegionOpen
import Derived.WalkKit
import Derived.OwnWalkIn
import Derived.TacticsInMore
import Derived.LoopNIn
import Derived.LoopIn
namespace Go.Proofs.YtpfmmlbakbhklaaGreatDoor
open Go.RowKit Go.Shelf
attribute [local go_sem] Oper.semAt_some

/-- Where a range over a way stands: the table that it came to last, if it has begun; words and frames. -/
structure Wy where
  last : Option (Int × Nat)
  sm : Sm
abbrev Xs := (Int × Nat) × P.En
def goOn (xs : List Int) (pg : Int) (lo : Nat) (p : Int × Nat) : Bool := decide (lo < p.2) && P.tb (en xs pg p.1 p.2)
/-- The table that comes next. -/
def Nxt (root pg : Int) (lo : Nat) (s : Wy) (p : Int × Nat) : Prop :=
  match s.last with
  | none => p = (root, 3)
  | some q => goOn s.sm.xs pg lo q = true ∧ p = ((en s.sm.xs pg q.1 q.2).f, q.2 - 1)
def FinW (pg : Int) (lo : Nat) (s : Wy) : Prop := ∃ q, s.last = some q ∧ goOn s.sm.xs pg lo q = false
def OkW (root pg : Int) (lo : Nat) (s : Wy) (x : Xs) : Prop := Nxt root pg lo s x.1 ∧ x.2 = en s.sm.xs pg x.1.1 x.1.2
def stX (pg : Int) (x : Xs) : Array Value := stC x.1.1 x.1.2 (P.at' x.1.1 pg x.1.2) x.2

/-- What the iterator's boxes hold, and what lies beside them. -/
structure Rd (u : Si) (t Bt Bl Bp : Nat) (o root pg : Int) (lo : Nat) (W : World) (sm : Sm) : Prop where
  bt : W.cell? ⟨Bt, 0, none⟩ = some (.pointer (some ⟨t, 0, none⟩))
  bl : W.cell? ⟨Bl, 0, none⟩ = some (.int .i64 lo)
  bp : W.cell? ⟨Bp, 0, none⟩ = some (.int .i64 pg)
  tb : IsT u W t 1 o root
  wo : ∃ k, Wo u W sm k
/-- The level that a box holds. -/
def lvIn (q : Nat) (W : World) : Nat := match W.cell? ⟨q, 1, none⟩ with | some (.int .i64 v) => v.toNat | _ => 0
theorem cell_kf {n : Nat} {A B : World} (h : Kf n A B) {q i : Nat} (hq : n ≤ q) (hl : q < A.heap.size) : B.cell? ⟨q, i, none⟩ = A.cell? ⟨q, i, none⟩ := World.cell?_of_block (h.block q hq hl)

theorem field97 (a b c d e f g : Value) (w : World) : (Instr.field 97 (.agg #[a, b, c, d, e, f, g]) 2).run Tryz.prog w = .ok (.agg #[d, e, f, g]) w := by kernel_rfl
/-- What next hands back, where it leads on, and where it does not. -/
theorem next_yes (fr : Int) (v : Nat) (e : P.En) (w : World) (hv : v ≤ 3) (h : nxB e v = true) : Calls Tryz.prog 90 #[.agg (tbC fr v), P.eV e] w fun r w' => r = .returned (.tuple #[.agg #[.int .i64 e.f, .int .i64 ((v - 1 : Nat) : Int)], .bool true]) ∧ Below w.heap.size w w' := by
  have := next_at fr v e w (by omega) (by omega)
  unfold nxV at this
  rw [h, if_pos rfl] at this
  have hz : (v : Int) - 1 = ((v - 1 : Nat) : Int) := by
    unfold nxB at h
    simp at h
    omega
  rw [hz] at this
  exact this
theorem next_no (fr : Int) (v : Nat) (e : P.En) (w : World) (hv : v ≤ 3) (h : nxB e v = false) : Calls Tryz.prog 90 #[.agg (tbC fr v), P.eV e] w fun r w' => r = .returned (.tuple #[.agg #[.int .i64 0, .int .i64 0], .bool false]) ∧ Below w.heap.size w w' := by
  have := next_at fr v e w (by omega) (by omega)
  unfold nxV at this
  rw [h, if_neg (by decide)] at this
  exact this
theorem next_some (fr : Int) (v : Nat) (e : P.En) (hv : v ≤ 3) : ∃ (nf : Int) (nv : Nat) (nb : Bool), (∀ w, Calls Tryz.prog 90 #[.agg (tbC fr v), P.eV e] w fun r w' => r = .returned (.tuple #[.agg #[.int .i64 nf, .int .i64 nv], .bool nb]) ∧ Below w.heap.size w w') ∧ nb = nxB e v ∧ (nb = true → nf = e.f ∧ nv = v - 1) ∧ nv ≤ 3 := by
  cases hb : nxB e v
  · exact ⟨0, 0, false, fun w => next_no fr v e w hv hb, rfl, fun h => (by cases h), by omega⟩
  · exact ⟨e.f, v - 1, true, fun w => next_yes fr v e w hv hb, rfl, fun _ => ⟨rfl, rfl⟩, by omega⟩
theorem nxB_nat {e : P.En} {v : Nat} : nxB e v = (decide (0 < v) && P.tb e) := by
  unfold nxB
  cases v with
  | zero => rfl
  | succ m =>
    have : (((m + 1 : Nat) : Int) == 0) = false := by rw [beq_eq_false_iff_ne]; omega
    rw [this]; simp

/-- A region of a piece of code. -/
def pickR (id : Nat) : Code → Option Code
  | .seq a b => match pickR id a with
    | some c => some c
    | none => pickR id b
  | .block _ c => pickR id c
  | .loop c => pickR id c
  | .scope c => pickR id c
  | .cond _ a b => match pickR id a with
    | some c => some c
    | none => pickR id b
  | .region n o d => bif Nat.beq n id then some (.region n o d) else none
  | _ => none
theorem at_0 {x0 : Oper} {l : List Oper} : (List.toArray (x0 :: l))[0]? = some x0 := rfl
theorem at_1 {x0 x1 : Oper} {l : List Oper} : (List.toArray (x0 :: x1 :: l))[1]? = some x1 := rfl
theorem at_2 {x0 x1 x2 : Oper} {l : List Oper} : (List.toArray (x0 :: x1 :: x2 :: l))[2]? = some x2 := rfl
theorem at_3 {x0 x1 x2 x3 : Oper} {l : List Oper} : (List.toArray (x0 :: x1 :: x2 :: x3 :: l))[3]? = some x3 := rfl
theorem at_4 {x0 x1 x2 x3 x4 : Oper} {l : List Oper} : (List.toArray (x0 :: x1 :: x2 :: x3 :: x4 :: l))[4]? = some x4 := rfl
theorem at_5 {x0 x1 x2 x3 x4 x5 : Oper} {l : List Oper} : (List.toArray (x0 :: x1 :: x2 :: x3 :: x4 :: x5 :: l))[5]? = some x5 := rfl
theorem at_6 {x0 x1 x2 x3 x4 x5 x6 : Oper} {l : List Oper} : (List.toArray (x0 :: x1 :: x2 :: x3 :: x4 :: x5 :: x6 :: l))[6]? = some x6 := rfl
theorem at_7 {x0 x1 x2 x3 x4 x5 x6 x7 : Oper} {l : List Oper} : (List.toArray (x0 :: x1 :: x2 :: x3 :: x4 :: x5 :: x6 :: x7 :: l))[7]? = some x7 := rfl
theorem at_8 {x0 x1 x2 x3 x4 x5 x6 x7 x8 : Oper} {l : List Oper} : (List.toArray (x0 :: x1 :: x2 :: x3 :: x4 :: x5 :: x6 :: x7 :: x8 :: l))[8]? = some x8 := rfl
theorem at_9 {x0 x1 x2 x3 x4 x5 x6 x7 x8 x9 : Oper} {l : List Oper} : (List.toArray (x0 :: x1 :: x2 :: x3 :: x4 :: x5 :: x6 :: x7 :: x8 :: x9 :: l))[9]? = some x9 := rfl
theorem at_10 {x0 x1 x2 x3 x4 x5 x6 x7 x8 x9 x10 : Oper} {l : List Oper} : (List.toArray (x0 :: x1 :: x2 :: x3 :: x4 :: x5 :: x6 :: x7 :: x8 :: x9 :: x10 :: l))[10]? = some x10 := rfl
theorem at_11 {x0 x1 x2 x3 x4 x5 x6 x7 x8 x9 x10 x11 : Oper} {l : List Oper} : (List.toArray (x0 :: x1 :: x2 :: x3 :: x4 :: x5 :: x6 :: x7 :: x8 :: x9 :: x10 :: x11 :: l))[11]? = some x11 := rfl
set_option maxRecDepth 100000 in
set_option maxHeartbeats 4000000 in
theorem reg3 {Q : Exit → Act → World → Prop} {w : World} {t Bt Bp q : Nat} {pg fr a2 er ef nf : Int} {v nv : Nat} {ep el nb : Bool} {c0 c2 c4 c6 c7 c8 c9 c10 c11 c12 c13 c14 c15 c16 c17 c18 c19 c20 c21 c22 c23 c24 c25 c26 c27 c28 c29 c30 c31 c32 : Value}
    (q0 : w.drew.cell? ⟨q, 0, none⟩ = some (.int .i64 fr)) (q1 : w.drew.cell? ⟨q, 1, none⟩ = some (.int .i64 v)) (r0 : w.drew.cell? ⟨Bt, 0, none⟩ = some (.pointer (some ⟨t, 0, none⟩))) (r2 : w.drew.cell? ⟨Bp, 0, none⟩ = some (.int .i64 pg))
    (HQ : Hid (w.drew.heap[q]? = some (.cells #[.int .i64 fr, .int .i64 v] 93 (0, 0))))
    (HS : Hid (∀ w', Below w.drew.heap.size w.drew w' → w'.cell? ⟨q, 0, none⟩ = some (.int .i64 fr) ∧ w'.cell? ⟨q, 1, none⟩ = some (.int .i64 v) ∧ w'.cell? ⟨Bt, 0, none⟩ = some (.pointer (some ⟨t, 0, none⟩)) ∧ w'.cell? ⟨Bp, 0, none⟩ = some (.int .i64 pg)))
    (HST : Hid (Calls Tryz.prog 136 #[.pointer (some ⟨t, 0, none⟩), .agg #[.int .i64 fr, .int .i64 v], .int .i64 pg] w.drew fun r w' => r = .returned (.agg #[.int .i64 fr, .int .i64 v, .int .i64 a2, .bool ep, .int .i64 er, .bool el, .int .i64 ef]) ∧ Below w.drew.heap.size w.drew w'))
    (HNX : Hid (∀ W, Calls Tryz.prog 90 #[.agg #[.int .i64 fr, .int .i64 v], .agg #[.bool ep, .int .i64 er, .bool el, .int .i64 ef]] W fun r w' => r = .returned (.tuple #[.agg #[.int .i64 nf, .int .i64 nv], .bool nb]) ∧ Below W.heap.size W w'))
    (hP : ∀ d c a v w, Q (.panic c) (a.put (some d) v) w → Q (.panic c) a w)
    (hK : ∀ (u23 u24 u25 u26 u27 u28 u29 u30 u31 u32 : Value) (w' : World), Below w.drew.heap.size w.drew w' → Q .normal ⟨#[c0, .pointer (some ⟨Bt, 0, none⟩), c2, .pointer (some ⟨Bp, 0, none⟩), c4, .pointer (some ⟨q, 0, none⟩), .bool nb, c7, c8, c9, c10, c11, c12, c13, c14, c15, c16, c17, c18, c19, c20, c21, c22, u23, u24, u25, u26, u27, u28, u29, u30, u31, u32], []⟩ ((w'.setCell ⟨q, 0, none⟩ (.int .i64 nf)).setCell ⟨q, 1, none⟩ (.int .i64 nv))) :
    Code.wp Tryz.prog ((Tryz.f135.body.bind (pickR 3)).getD .skip) Q ⟨#[c0, .pointer (some ⟨Bt, 0, none⟩), c2, .pointer (some ⟨Bp, 0, none⟩), c4, .pointer (some ⟨q, 0, none⟩), c6, c7, c8, c9, c10, c11, c12, c13, c14, c15, c16, c17, c18, c19, c20, c21, c22, c23, c24, c25, c26, c27, c28, c29, c30, c31, c32], []⟩ w := by
  have HK := hid hK
  have HP := hid hP
  clear hK hP
  have hfld := fun W => field97 (.int .i64 fr) (.int .i64 v) (.int .i64 a2) (.bool ep) (.int .i64 er) (.bool el) (.int .i64 ef) W
  conv => arg 2; whnf
  refine wp_region_any (by kernel_rfl) ?_
  refine any_of_T (S := fun w' => w'.cell? ⟨q, 0, none⟩ = some (.int .i64 fr) ∧ w'.cell? ⟨q, 1, none⟩ = some (.int .i64 v) ∧ w'.cell? ⟨Bt, 0, none⟩ = some (.pointer (some ⟨t, 0, none⟩)) ∧ w'.cell? ⟨Bp, 0, none⟩ = some (.int .i64 pg)) (c := 6) _ _ _ _ ?_
  refine T_take (i := 0) (v := .agg #[.int .i64 fr, .int .i64 v]) at_0 (by kernel_rfl) (by kernel_rfl) (by kernel_rfl) (fun _ _ _ h => HP.out _ _ _ _ _ h) (fun l hl h0 => not_ready h0 at_6 (by kernel_rfl)) (Cl.start 0) (by decide) (Or.inl ⟨by rfl, ?_⟩) ⟨q0, q1, r0, r2⟩ (fun hcl0 => ?_)
  · intro w' hw'
    obtain ⟨a0, a1, a2, a3⟩ := hw'
    go_simp
  (try simp only [Act.put, List.setIfInBounds_toArray, List.set_cons_zero, List.set_cons_succ])
  refine T_take (i := 1) (v := .pointer (some ⟨t, 0, none⟩)) at_1 (by kernel_rfl) (by kernel_rfl) (by kernel_rfl) (fun _ _ _ h => HP.out _ _ _ _ _ h) (fun l hl h0 => not_ready (hl.up (hl.up h0 at_4 (by kernel_rfl)) at_5 (by kernel_rfl)) at_6 (by kernel_rfl)) hcl0 (by decide) (Or.inl ⟨by rfl, ?_⟩) ⟨q0, q1, r0, r2⟩ (fun hcl1 => ?_)
  · intro w' hw'
    obtain ⟨a0, a1, a2, a3⟩ := hw'
    go_simp
  (try simp only [Act.put, List.setIfInBounds_toArray, List.set_cons_zero, List.set_cons_succ])
  refine T_take (i := 2) (v := .agg #[.int .i64 fr, .int .i64 v]) at_2 (by kernel_rfl) (by kernel_rfl) (by kernel_rfl) (fun _ _ _ h => HP.out _ _ _ _ _ h) (fun l hl h0 => not_ready (hl.up (hl.up h0 at_4 (by kernel_rfl)) at_5 (by kernel_rfl)) at_6 (by kernel_rfl)) hcl1 (by decide) (Or.inl ⟨by rfl, ?_⟩) ⟨q0, q1, r0, r2⟩ (fun hcl2 => ?_)
  · intro w' hw'
    obtain ⟨a0, a1, a2, a3⟩ := hw'
    go_simp
  (try simp only [Act.put, List.setIfInBounds_toArray, List.set_cons_zero, List.set_cons_succ])
  refine T_take (i := 3) (v := .int .i64 pg) at_3 (by kernel_rfl) (by kernel_rfl) (by kernel_rfl) (fun _ _ _ h => HP.out _ _ _ _ _ h) (fun l hl h0 => not_ready (hl.up (hl.up h0 at_4 (by kernel_rfl)) at_5 (by kernel_rfl)) at_6 (by kernel_rfl)) hcl2 (by decide) (Or.inl ⟨by rfl, ?_⟩) ⟨q0, q1, r0, r2⟩ (fun hcl3 => ?_)
  · intro w' hw'
    obtain ⟨a0, a1, a2, a3⟩ := hw'
    go_simp
  (try simp only [Act.put, List.setIfInBounds_toArray, List.set_cons_zero, List.set_cons_succ])
  refine T_one (i := 4) at_4 (by kernel_rfl) (by decide) (fun K' hK => ?_)
  go_simp
  go_wp2_with (go_at_call 136; refine HST.out.mono ?_; rintro r w4 ⟨rfl, hB4⟩)
  have HB4 := hid hB4
  refine hK.out _ _ (HS.out _ hB4) ?_
  clear hK K' hB4
  (try simp only [Act.put, List.setIfInBounds_toArray, List.set_cons_zero, List.set_cons_succ])
  refine T_one (i := 5) at_5 (by kernel_rfl) (by decide) (fun K' hK => ?_)
  go_simp
  refine hK.out _ _ (HS.out _ HB4.out) ?_
  clear hK K'
  (try simp only [Act.put, List.setIfInBounds_toArray, List.set_cons_zero, List.set_cons_succ])
  refine T_turn at_6 (by kernel_rfl) (fun K' hK => ?_)
  go_simp
  go_wp2_with (go_at_call 90; refine (HNX.out _).mono ?_; rintro r w5 ⟨rfl, hB5⟩)
  have HB5 := hid (P.bgo HB4.out hB5)
  refine hK.out _ _ ?_
  clear hK K' hB5
  (try simp only [Act.put, List.setIfInBounds_toArray, List.set_cons_zero, List.set_cons_succ])
  have f0 := P.free_of (i := 0) (P.stay HB5.out HQ.out)
  have f1 := P.free_of (i := 1) (P.stay HB5.out HQ.out)
  obtain ⟨b0, b1, -⟩ := HS.out _ HB5.out
  refine any_one (i := 7) at_7 (by kernel_rfl) (fun K' hK => ?_)
  go_simp
  refine hK.out _ _ ?_
  clear hK K'
  (try simp only [Act.put, List.setIfInBounds_toArray, List.set_cons_zero, List.set_cons_succ])
  refine wpAny_take (i := 8) (v := .agg #[.int .i64 nf, .int .i64 nv]) at_8 (by kernel_rfl) (by kernel_rfl) (by kernel_rfl) (fun _ _ _ h => HP.out _ _ _ _ _ h) (Or.inl ⟨by rfl, ?_⟩) ?_
  · intro w'
    go_simp
  (try simp only [Act.put, List.setIfInBounds_toArray, List.set_cons_zero, List.set_cons_succ])
  refine wpAny_take (i := 9) (v := .bool nb) at_9 (by kernel_rfl) (by kernel_rfl) (by kernel_rfl) (fun _ _ _ h => HP.out _ _ _ _ _ h) (Or.inl ⟨by rfl, ?_⟩) ?_
  · intro w'
    go_simp
  (try simp only [Act.put, List.setIfInBounds_toArray, List.set_cons_zero, List.set_cons_succ])
  refine any_one (i := 10) at_10 (by kernel_rfl) (fun K' hK => ?_)
  go_simp
  refine hK.out _ _ ?_
  clear hK K'
  (try simp only [Act.put, List.setIfInBounds_toArray, List.set_cons_zero, List.set_cons_succ])
  refine any_one (i := 11) at_11 (by kernel_rfl) (fun K' hK => ?_)
  go_simp
  refine hK.out _ _ ?_
  clear hK K'
  (try simp only [Act.put, List.setIfInBounds_toArray, List.set_cons_zero, List.set_cons_succ])
  refine wpAny_done (by kernel_rfl) ?_ _
  exact HK.out _ _ _ _ _ _ _ _ _ _ _ HB5.out
end Go.Proofs.YtpfmmlbakbhklaaGreatDoor
namespace Go.Proofs.YtpfmmlbakbhklaaGreatDoor
open Go.RowKit Go.Shelf
attribute [local go_sem] Oper.semAt_some

theorem lvIn_of {q : Nat} {W : World} {fr : Int} {v : Nat} (h : W.heap[q]? = some (.cells #[.int .i64 fr, .int .i64 v] 93 (0, 0))) : lvIn q W = v := by
  unfold lvIn
  rw [P.cell_of (i := 1) h rfl]
  rfl
set_option maxRecDepth 100000 in
set_option maxHeartbeats 4000000 in
theorem way1_in (n : Nat) (hn : 1 ≤ n) (u : Si) (t Bt Bl Bp : Nat) (o root pg : Int) (lo : Nat) (hlo : lo ≤ 3) (I : Wy → World → Prop) (E : Int × Nat → Sm → Sm) (s0 : Wy) (hs0 : s0.last = none)
    (hI : ∀ s A, I s A → Rd u t Bt Bl Bp o root pg lo A s.sm)
    (l : Nat) (J : Wy → World → Prop) (W : World) (n₀ : Nat) (hn₀ : n₀ ≤ W.heap.size) (hJ : ∀ s A B, J s A → AbT n₀ 93 A B → J s B) (hJI : ∀ s A, J s A → I s A)
    (hY : ∀ s x A, J s A → OkW root pg lo s x → YieldAt Fence.wide (n - 1) Tryz.prog l #[.agg (stX pg x)] A fun e B => e = .returned (.bool true) ∧ J ⟨some x.1, E x.1 s.sm⟩ B ∧ RkT 93 A B)
    (h0 : J s0 W) :
    CallsIn Fence.wide n Tryz.prog 135 #[.func (.yield l) #[] #[], .pointer (some ⟨Bt, 0, none⟩), .pointer (some ⟨Bl, 0, none⟩), .pointer (some ⟨Bp, 0, none⟩)] W fun e B => (∃ v, e = .returned v) ∧ ∃ s, FinW pg lo s ∧ J s B := by
  have HY := hid hY
  have HN0 := hid hn₀
  have HJ := hid hJ
  have HJI := hid hJI
  have HI := hid hI
  have HL := hid hlo
  have HJ0 := hid h0
  have HR0 := hid (hI _ _ (hJI _ _ h0))
  have HS := hid hs0
  have q1 := HR0.out.bt
  have HT := hid (top_at HR0.out.tb)
  clear hn₀ hY hJ hJI hI h0 hs0 hlo
  refine callsIn_of_wp Tryz.func135 rfl trivial ?_ rfl
  simp only [Tryz.ntmps135, List.size_toArray, List.length_cons, List.length_nil, Nat.reduceAdd, Nat.reduceSub, Array.replicate_succ, Array.replicate_zero, List.push_toArray, List.append_toArray, List.nil_append, List.cons_append]
  gi_wp2_with fail
  refine ⟨trivial, (callsIn_wide.2 HT.out).mono ?_⟩
  rintro e w1 ⟨rfl, hB1⟩
  have HJ1 := hid (HJ.out _ _ _ HJ0.out (.of_below hB1))
  have HB1 := hid hB1
  clear hB1 q1
  have HN := hid (heap_alloc_new w1 (.cells #[.int .i64 root, .int .i64 3] 93))
  have HA := hid (below_alloc w1 (.cells #[.int .i64 root, .int .i64 3] 93))
  gi_wp2
  gi_loopw [6] (fun p wr => ∃ (s : Wy) (fr : Int) (v : Nat) (b : Bool), p = .bool b ∧ J s wr ∧ wr.heap[w1.heap.size]? = some (.cells #[.int .i64 fr, .int .i64 v] 93 (0, 0)) ∧ v ≤ 3 ∧ (b = true → lo ≤ v → Nxt root pg lo s (fr, v)) ∧ (b = false ∨ v < lo → FinW pg lo s))
    (fun p wr => match p with | .bool true => 1 + lvIn w1.heap.size wr | _ => 0)
  case atStart =>
    refine ⟨s0, root, 3, true, rfl, HJ.out _ _ _ HJ1.out (.of_below HA.out), HN.out, by omega, fun _ _ => ?_, fun h => ?_⟩
    · unfold Nxt; rw [HS.out]
    · have := HL.out; rcases h with h | h
      · cases h
      · omega
  case round =>
    obtain ⟨s, fr, v, b, rfl, hJs, hq, hv, hnx, hfin⟩ := hrel
    have HJs := hid hJs
    have HQ := hid hq
    have HLV := hid (lvIn_of hq)
    have HV := hid hv
    have HX := hid hnx
    have HF := hid hfin
    have HR := hid (HI.out _ _ (HJI.out _ _ hJs))
    have q0 := P.cell_of (i := 0) hq rfl
    have q1 := P.cell_of (i := 1) hq rfl
    have r1 := HR.out.bl
    clear hJs hq hnx hfin
    cases b
    · gi_wp2
      go_end0
      exact ⟨⟨_, rfl⟩, s, HF.out (.inl (by trivial)), HJs.out⟩
    · by_cases hlv : lo ≤ v
      · have r0 := HR.out.bt
        have r2 := HR.out.bp
        obtain ⟨k, hwo⟩ := HR.out.wo
        have HST := hid (stop_at HR.out.tb hwo fr pg v)
        have hok : OkW root pg lo s ((fr, v), en s.sm.xs pg fr v) := ⟨HX.out rfl hlv, rfl⟩
        have HOK := hid hok
        have hlv' : (lo : Int) ≤ v := by omega
        clear hwo hok
        generalize hea : en s.sm.xs pg fr v = e at HST HOK
        obtain ⟨ep, er, el, ef⟩ := e
        have HY1 := hid (fun A (hA : J s A) => HY.out s ((fr, v), ⟨ep, er, el, ef⟩) A hA HOK.out)
        unfold stX at HY1
        simp only at HY1 HST
        generalize haa : P.at' fr pg v = a at HY1 HST
        clear haa hea
        gi_wp2_with fail
        refine ⟨trivial, (callsIn_wide.2 HST.out).mono ?_⟩
        rintro e w2 ⟨rfl, hB2⟩
        have HJ2 := hid (HJ.out _ _ _ HJs.out (.of_below hB2))
        have HQ2 := hid ((hB2.block _ (lt_of_block HQ.out)).trans HQ.out)
        obtain ⟨fn, tmps, assign, body, hy, hR⟩ := HY1.out w2 HJ2.out
        clear hB2 q0 q1 r0 r1 r2
        gi_wp2
        refine hR.mono ?_
        rintro e W3 ⟨rfl, hJ3, hK3⟩
        have HJ3 := hid hJ3
        have HQ3 := hid (hK3 _ _ HQ2.out)
        have HR3 := hid (HI.out _ _ (HJI.out _ _ hJ3))
        clear hJ3 hK3 hy HY1 HJ2 HQ2 HST HOK HR HJs HQ
        obtain ⟨k3, hwo3⟩ := HR3.out.wo
        have hB3 : Below W3.heap.size W3 W3.drew := (Below.refl _ _).drew
        have hST3 := stop_at (HR3.out.tb.below hB3) (hwo3.below hB3) fr pg v
        have q0 : W3.drew.cell? ⟨w1.heap.size, 0, none⟩ = some (.int .i64 fr) := P.cell_of (i := 0) HQ3.out rfl
        have q1 : W3.drew.cell? ⟨w1.heap.size, 1, none⟩ = some (.int .i64 v) := P.cell_of (i := 1) HQ3.out rfl
        have r0 : W3.drew.cell? ⟨Bt, 0, none⟩ = some (.pointer (some ⟨t, 0, none⟩)) := HR3.out.bt
        have r2 : W3.drew.cell? ⟨Bp, 0, none⟩ = some (.int .i64 pg) := HR3.out.bp
        have hS : ∀ w', Below W3.drew.heap.size W3.drew w' → w'.cell? ⟨w1.heap.size, 0, none⟩ = some (.int .i64 fr) ∧ w'.cell? ⟨w1.heap.size, 1, none⟩ = some (.int .i64 v) ∧ w'.cell? ⟨Bt, 0, none⟩ = some (.pointer (some ⟨t, 0, none⟩)) ∧ w'.cell? ⟨Bp, 0, none⟩ = some (.int .i64 pg) := fun w' b =>
          ⟨(b.cell (p := ⟨w1.heap.size, 0, none⟩) (lt_of_block HQ3.out)).trans q0, (b.cell (p := ⟨w1.heap.size, 1, none⟩) (lt_of_block HQ3.out)).trans q1, (b.cell (p := ⟨Bt, 0, none⟩) (World.block_lt_of_cell? _ ⟨Bt, 0, none⟩ r0)).trans r0, (b.cell (p := ⟨Bp, 0, none⟩) (World.block_lt_of_cell? _ ⟨Bp, 0, none⟩ r2)).trans r2⟩
        have HS3 := hid hS
        have HST3 := hid hST3
        simp only at HST3
        clear hB3 hST3 hwo3 hS
        gi_wp2
        refine wpIn_wide.2 ?_
        obtain ⟨nf, nv, nb, hNX, hnf⟩ := next_some fr v (en (E (fr, v) s.sm).xs pg fr v) HV.out
        have HNX := hid hNX
        have HNF := hid hnf
        generalize hea : en (E (fr, v) s.sm).xs pg fr v = e at HST3 HNX
        have HEA := hid hea
        obtain ⟨ep, er, el, ef⟩ := e
        unfold P.eV at HNX
        simp only at HST3 HNX
        generalize P.at' fr pg v = a2 at HST3
        change Hid (Calls Tryz.prog 136 _ _ fun r w' => r = .returned (.agg #[.int .i64 fr, .int .i64 v, .int .i64 a2, .bool ep, .int .i64 er, .bool el, .int .i64 ef]) ∧ Below _ _ w') at HST3
        have HQ3' : Hid (W3.drew.heap[w1.heap.size]? = some (.cells #[.int .i64 fr, .int .i64 v] 93 (0, 0))) := HQ3.out
        have hnb : Hid (nb = nxB (en (E (fr, v) s.sm).xs pg fr v) v ∧ (nb = true → nf = (en (E (fr, v) s.sm).xs pg fr v).f ∧ nv = v - 1) ∧ nv ≤ 3) := HNF.out
        clear hnf hNX hea HNF
        refine reg3 q0 q1 r0 r2 HQ3' HS3 HST3 HNX (fun _ _ _ _ _ h => h) (fun u23 u24 u25 u26 u27 u28 u29 u30 u31 u32 w5 hB5 => ?_)
        have HB5 := hid hB5
        clear hB5 q0 q1 r0 r2
        gi_wp2
        have hq5 := put2 (P.stay HB5.out HQ3'.out) (.int .i64 nf) (.int .i64 nv)
        obtain ⟨e1, e2, e3⟩ := hnb.out
        rw [nxB_nat] at e1
        have hb5 : AbT n₀ 93 W3 w5 := .of_below ((Below.refl W3.heap.size W3).drew.trans HB5.out)
        refine ⟨⟨⟨some (fr, v), E (fr, v) s.sm⟩, nf, nv, nb, rfl, HJ.out _ _ _ HJ3.out ((hb5.setCell HQ3.out (Nat.le_trans HN0.out HB1.out.size) _).setCell HQ3.out (Nat.le_trans HN0.out HB1.out.size) _), hq5, e3, fun h1 h2 => ?_, fun h => ?_⟩, ?_⟩
        · obtain ⟨f1, f2⟩ := e2 h1
          rw [h1] at e1
          have e1 := e1.symm
          simp only [Bool.and_eq_true, decide_eq_true_eq] at e1
          show goOn (E (fr, v) s.sm).xs pg lo (fr, v) = true ∧ (nf, nv) = ((en (E (fr, v) s.sm).xs pg fr v).f, v - 1)
          refine ⟨?_, by rw [f1, f2]⟩
          unfold goOn
          rw [e1.2, Bool.and_true, decide_eq_true_eq]
          show lo < v
          omega
        · refine ⟨(fr, v), rfl, ?_⟩
          unfold goOn
          cases hbn : nb
          · rw [hbn] at e1
            cases htb : P.tb (en (E (fr, v) s.sm).xs pg fr v)
            · simp
            · rw [htb, Bool.and_true] at e1
              have := of_decide_eq_false e1.symm
              have : ¬ lo < v := by omega
              simp [this]
          · obtain ⟨f1, f2⟩ := e2 hbn
            rcases h with h | h
            · rw [hbn] at h; cases h
            · have : ¬ lo < v := by omega
              simp [this]
        · rw [lvIn_of hq5, HLV.out]
          cases hbn : nb
          · show 0 < 1 + v
            omega
          · obtain ⟨f1, f2⟩ := e2 hbn
            rw [hbn] at e1
            have e1 := e1.symm
            simp only [Bool.and_eq_true, decide_eq_true_eq] at e1
            show 1 + nv < 1 + v
            omega
      · have hlv' : ¬ (lo : Int) ≤ v := by omega
        gi_wp2
        go_end0
        exact ⟨⟨_, rfl⟩, s, HF.out (.inr (by omega)), HJs.out⟩
end Go.Proofs.YtpfmmlbakbhklaaGreatDoor
namespace Go.Proofs.YtpfmmlbakbhklaaGreatDoor
open Go.RowKit Go.Shelf
attribute [local go_sem] Oper.semAt_some

theorem oth7 (W : World) {m g : Nat} (hne : m ≠ g) (a b c d e f h : Value) :
    (((((((W.setCell ⟨g, 0, none⟩ a).setCell ⟨g, 1, none⟩ b).setCell ⟨g, 2, none⟩ c).setCell ⟨g, 3, none⟩ d).setCell ⟨g, 4, none⟩ e).setCell ⟨g, 5, none⟩ f).setCell ⟨g, 6, none⟩ h).heap[m]? = W.heap[m]? := by
  rw [Below.heap_setCell _ _ _ _ hne, Below.heap_setCell _ _ _ _ hne, Below.heap_setCell _ _ _ _ hne, Below.heap_setCell _ _ _ _ hne, Below.heap_setCell _ _ _ _ hne, Below.heap_setCell _ _ _ _ hne, Below.heap_setCell _ _ _ _ hne]
theorem new5 (w : World) (A B C D E : Obj) : (((((w.alloc A).alloc B).alloc C).alloc D).alloc E).heap[w.heap.size]? = some A ∧ (((((w.alloc A).alloc B).alloc C).alloc D).alloc E).heap[w.heap.size + 1]? = some B ∧ (((((w.alloc A).alloc B).alloc C).alloc D).alloc E).heap[w.heap.size + 2]? = some C ∧ (((((w.alloc A).alloc B).alloc C).alloc D).alloc E).heap[w.heap.size + 3]? = some D ∧ (((((w.alloc A).alloc B).alloc C).alloc D).alloc E).heap[w.heap.size + 4]? = some E := by
  have h := new3 w A B C
  have h2 := P.two_new ((w.alloc A).alloc B |>.alloc C) D E
  simp only [World.size_alloc] at h2
  exact ⟨P.hkeep (P.hkeep h.1 D) E, P.hkeep (P.hkeep h.2.1 D) E, P.hkeep (P.hkeep h.2.2 D) E, h2.1, h2.2⟩
theorem b5 (w : World) (A B C D E : Obj) : Below w.heap.size w (((((w.alloc A).alloc B).alloc C).alloc D).alloc E) :=
  ((((below_alloc w A).alloc (by simp) B).alloc (by simp; omega) C).alloc (by simp; omega) D).alloc (by simp; omega) E

set_option maxHeartbeats 1000000 in
theorem way_in (n : Nat) (t : Nat) (pg : Int) (lo : Nat) (w : World) :
    CallsIn Fence.wide n Tryz.prog 96 #[.pointer (some ⟨t, 0, none⟩), .int .i64 pg, .int .i64 lo] w fun e w' =>
      e = .returned (.func (.func 135) #[] #[.pointer (some ⟨w.heap.size, 0, none⟩), .pointer (some ⟨w.heap.size + 2, 0, none⟩), .pointer (some ⟨w.heap.size + 1, 0, none⟩)]) ∧
      w' = ((w.alloc (.cells #[.pointer (some ⟨t, 0, none⟩)] 30)).alloc (.cells #[.int .i64 pg] 3)).alloc (.cells #[.int .i64 lo] 3) := by
  refine callsIn_of_wp Tryz.func96 rfl trivial ?_ rfl
  simp only [Tryz.ntmps96, List.size_toArray, List.length_cons, List.length_nil, Nat.reduceAdd, Nat.reduceSub, Array.replicate_succ, Array.replicate_zero, List.push_toArray, List.append_toArray, List.nil_append, List.cons_append]
  gi_wp2
  go_ret
  exact ⟨rfl, rfl⟩

abbrev zeC : Array Value := #[.int .i64 0, .int .i64 0, .int .i64 0, .bool false, .int .i64 0, .bool false, .int .i64 0]
/-- The stop at a table. -/
def atC (xs : List Int) (pg : Int) (p : Int × Nat) : Array Value := stX pg (p, en xs pg p.1 p.2)
def lastC (xs : List Int) (pg : Int) (l : Option (Int × Nat)) : Array Value := match l with | none => zeC | some p => atC xs pg p
theorem lastC_seven (xs : List Int) (pg : Int) (l : Option (Int × Nat)) : ∃ a b c d e f g, lastC xs pg l = #[a, b, c, d, e, f, g] := by
  cases l
  · exact ⟨_, _, _, _, _, _, _, rfl⟩
  · exact ⟨_, _, _, _, _, _, _, rfl⟩
/-- Where the way that goes on from here ends. -/
def contF (xs : List Int) (root pg : Int) (lo : Nat) (l : Option (Int × Nat)) : Int × Nat :=
  match l with
  | none => endF xs pg lo 3 root
  | some q => if goOn xs pg lo q = true then endF xs pg lo (q.2 - 1) (en xs pg q.1 q.2).f else q
theorem endF_step (xs : List Int) (pg : Int) (lo : Nat) (v : Nat) (fr : Int) : endF xs pg lo v fr = if goOn xs pg lo (fr, v) = true then endF xs pg lo (v - 1) (en xs pg fr v).f else (fr, v) := by
  cases v with
  | zero => unfold goOn endF; simp
  | succ v => conv => lhs; unfold endF
              rfl
theorem contF_next {xs : List Int} {root pg : Int} {lo : Nat} {s : Wy} (hs : s.sm.xs = xs) {p : Int × Nat} (h : Nxt root pg lo s p) : contF xs root pg lo s.last = contF xs root pg lo (some p) := by
  subst hs
  unfold Nxt at h
  cases hl : s.last with
  | none =>
    rw [hl] at h
    simp only at h
    subst h
    exact endF_step _ _ _ _ _
  | some q =>
    rw [hl] at h
    simp only at h
    obtain ⟨h1, rfl⟩ := h
    show (if _ then _ else _) = _
    rw [if_pos h1]
    exact endF_step _ _ _ _ _

set_option maxRecDepth 100000 in
set_option maxHeartbeats 4000000 in
theorem end_in {u : Si} {w : World} {t : Nat} {o root : Int} {s : Sm} {k : Nat} (hT : IsT u w t 1 o root) (h : Wo u w s k) (pg : Int) (lo : Nat) (hlo : lo ≤ 3) :
    CallsIn Fence.wide 3 Tryz.prog 84 #[.pointer (some ⟨t, 0, none⟩), .int .i64 pg, .int .i64 lo] w fun e w' => e = .returned (.agg (atC s.xs pg (endF s.xs pg lo 3 root))) ∧ Below w.heap.size w w' := by
  have HT := hid hT
  have HW := hid h
  have HLO := hid hlo
  generalize hEF : endF s.xs pg lo 3 root = EF
  have HEF := hid hEF
  clear hT h hlo hEF
  refine callsIn_of_wp_marks Tryz.func84 rfl trivial ?_ rfl
  simp only [Tryz.ntmps84, List.size_toArray, List.length_cons, List.length_nil, Nat.reduceAdd, Nat.reduceSub, Array.replicate_succ, Array.replicate_zero, List.push_toArray, List.append_toArray, List.nil_append, List.cons_append]
  gi_wp2_with fail
  refine ⟨trivial, (way_in _ _ _ _ _).mono ?_⟩
  rintro e w' ⟨rfl, rfl⟩
  gi_wp2
  obtain ⟨n0, n1, n2, n3, n4⟩ := new5 w (.cells zeC 97) (.cells zeC 97) (.cells #[.pointer (some ⟨t, 0, none⟩)] 30) (.cells #[.int .i64 pg] 3) (.cells #[.int .i64 lo] 3)
  have B0 := b5 w (.cells zeC 97) (.cells zeC 97) (.cells #[.pointer (some ⟨t, 0, none⟩)] 30) (.cells #[.int .i64 pg] 3) (.cells #[.int .i64 lo] 3)
  have Z0 : (((((w.alloc (.cells zeC 97)).alloc (.cells zeC 97)).alloc (.cells #[.pointer (some ⟨t, 0, none⟩)] 30)).alloc (.cells #[.int .i64 pg] 3)).alloc (.cells #[.int .i64 lo] 3)).heap.size = w.heap.size + 5 := by simp
  generalize hw0 : (((((w.alloc (.cells zeC 97)).alloc (.cells zeC 97)).alloc (.cells #[.pointer (some ⟨t, 0, none⟩)] 30)).alloc (.cells #[.int .i64 pg] 3)).alloc (.cells #[.int .i64 lo] 3)) = W0 at *
  clear hw0
  refine range_told (F := Fence.wide) (n := 3) rfl (by decide) (gf := 135) (lb := #[.pointer (some ⟨w.heap.size + 2, 0, none⟩), .pointer (some ⟨w.heap.size + 4, 0, none⟩), .pointer (some ⟨w.heap.size + 3, 0, none⟩)]) rfl trivial (enters_of Tryz.func135 (by kernel_rfl) rfl)
    (fun x : Xs => #[.agg (stX pg x)]) (fun _ => rfl) (AbT (w.heap.size + 5) 93) (RkT 93) (fun _ _ => .of_below) (fun _ _ _ _ h => h.other _ _) RkT.trans RkT.tw
    (fun (z : Wy) W => z.sm = s ∧ Below w.heap.size w W ∧ W.heap[w.heap.size]? = some (.cells zeC 97 (0, 0)) ∧ W.heap[w.heap.size + 1]? = some (.cells (lastC s.xs pg z.last) 97 (0, 0)) ∧ (W.heap[w.heap.size + 2]? = some (.cells #[.pointer (some ⟨t, 0, none⟩)] 30 (0, 0)) ∧ W.heap[w.heap.size + 3]? = some (.cells #[.int .i64 pg] 3 (0, 0)) ∧ W.heap[w.heap.size + 4]? = some (.cells #[.int .i64 lo] 3 (0, 0))) ∧ contF s.xs root pg lo z.last = EF)
    (OkW root pg lo) (fun z x => ⟨some x.1, z.sm⟩) (FinW pg lo) ⟨none, s⟩ ?hI ?hIp ?h0 ?hit ?hround ?hdone
  case hI =>
    rintro z A B ⟨a, b, c, d, ⟨e1, e2, e3⟩, f⟩ hb
    exact ⟨a, b.trans (hb.below (by omega) b.size), hb.low c (by omega), hb.low d (by omega), ⟨hb.low e1 (by omega), hb.low e2 (by omega), hb.low e3 (by omega)⟩, f⟩
  case hIp =>
    rintro z A B l ob ⟨a, b, c, d, ⟨e1, e2, e3⟩, f⟩ hb hl ho hw
    exact ⟨a, b.trans (hb.below (by omega)), hb.cells hl ho c, hb.cells hl ho d, ⟨hb.cells hl ho e1, hb.cells hl ho e2, hb.cells hl ho e3⟩, f⟩
  case h0 => exact ⟨rfl, B0, n0, n1, ⟨n2, n3, n4⟩, HEF.out⟩
  case hit =>
    intro l J W hBW hJ hJI hY h0
    refine way1_in 2 (by decide) u t (w.heap.size + 2) (w.heap.size + 4) (w.heap.size + 3) o root pg lo HLO.out
      (fun (z : Wy) W => z.sm = s ∧ Below w.heap.size w W ∧ W.heap[w.heap.size]? = some (.cells zeC 97 (0, 0)) ∧ W.heap[w.heap.size + 1]? = some (.cells (lastC s.xs pg z.last) 97 (0, 0)) ∧ (W.heap[w.heap.size + 2]? = some (.cells #[.pointer (some ⟨t, 0, none⟩)] 30 (0, 0)) ∧ W.heap[w.heap.size + 3]? = some (.cells #[.int .i64 pg] 3 (0, 0)) ∧ W.heap[w.heap.size + 4]? = some (.cells #[.int .i64 lo] 3 (0, 0))) ∧ contF s.xs root pg lo z.last = EF)
      (fun _ m => m) ⟨none, s⟩ rfl ?_ l J W (w.heap.size + 5) (by have := hBW.size; omega) hJ hJI hY h0
    rintro z A ⟨rfl, b, c, d, ⟨e1, e2, e3⟩, f⟩
    exact ⟨P.cell_of e1 rfl, P.cell_of e3 rfl, P.cell_of e2 rfl, HT.out.below b, _, HW.out.below b⟩
  case hround =>
    rintro l z x W ⟨a, b, c, d, ⟨e1, e2, e3⟩, f⟩ hok ⟨ob, hob, hoc⟩
    subst a
    have hx : stX pg x = atC z.sm.xs pg x.1 := by
      obtain ⟨p, e⟩ := x
      have := hok.2
      simp only at this
      subst this
      rfl
    have hcont := contF_next rfl hok.1
    have HX : Hid (atC z.sm.xs pg x.1 = stX pg x) := hx.symm
    have HC := hid (hcont.symm.trans f)
    have HB := hid b
    have HZ := hid c
    have HE := hid (And.intro e1 (And.intro e2 e3))
    have HL : Hid (w.heap.size + 5 + 1 < W.heap.size) := by rw [← Z0]; exact (Array.getElem?_eq_some_iff.1 hob).1
    have HO := hid (And.intro hob hoc)
    have HD := hid d
    clear hx hcont b c d e1 e2 e3 f hok hob hoc
    obtain ⟨p, e⟩ := x
    obtain ⟨ep, er, el, ef⟩ := e
    have HN := hid (heap_alloc_new W (.cells (stX pg (p, ⟨ep, er, el, ef⟩)) 97))
    unfold stX at HN HX ⊢
    simp only at HN HX ⊢
    generalize P.at' p.1 pg p.2 = a at *
    gi_wp2
    refine ⟨Ko.of_below (below_alloc W _), RkT.of_below (below_alloc W _), fun W2 hT2 => ?_⟩
    have HG := hid ((hT2.block W.heap.size (by have := HL.out; omega)).trans HN.out)
    have HM := hid ((hT2.block (w.heap.size + 1) (by omega)).trans (P.hkeep HD.out _))
    have HB2 := hid ((HB.out.alloc HB.out.size _).trans (hT2.below (n := w.heap.size) (by omega)))
    have hZ2 : ∀ q c T, q < W.heap.size → q ≠ w.heap.size + 5 + 1 → W.heap[q]? = some (.cells c T (0, 0)) → W2.heap[q]? = some (.cells c T (0, 0)) := fun q c T hq hne h => (hT2.block q hne).trans (P.hkeep h _)
    have HZ2 := hid hZ2
    clear hT2 hZ2
    obtain ⟨g0, g1, g2, g3, g4, g5, g6⟩ := seven HG.out
    obtain ⟨l0, l1, l2, l3, l4, l5, l6, hl7⟩ := lastC_seven z.sm.xs pg z.last
    have HM7 := HM.out
    rw [hl7] at HM7
    have HM7' := hid HM7
    obtain ⟨x0, x1, x2, x3, x4, x5, x6⟩ := seven HM7
    obtain ⟨y0, y1, y2, y3, y4, y5, y6⟩ := free7 HM7
    clear HM7 hl7
    gi_wp2
    have hq := put7 HM7'.out (.int .i64 p.1) (.int .i64 p.2) (.int .i64 a) (.bool ep) (.int .i64 er) (.bool el) (.int .i64 ef)
    rw [show (#[Value.int .i64 p.1, Value.int .i64 (p.2 : Int), Value.int .i64 a, Value.bool ep, Value.int .i64 er, Value.bool el, Value.int .i64 ef] : Array Value) = atC z.sm.xs pg p from HX.out.symm] at hq
    have hoth : ∀ q c T, q < W.heap.size → q ≠ w.heap.size + 5 + 1 → q ≠ w.heap.size + 1 → W.heap[q]? = some (.cells c T (0, 0)) → (((((((W2.setCell ⟨w.heap.size + 1, 0, none⟩ (.int .i64 p.1)).setCell ⟨w.heap.size + 1, 1, none⟩ (.int .i64 p.2)).setCell ⟨w.heap.size + 1, 2, none⟩ (.int .i64 a)).setCell ⟨w.heap.size + 1, 3, none⟩ (.bool ep)).setCell ⟨w.heap.size + 1, 4, none⟩ (.int .i64 er)).setCell ⟨w.heap.size + 1, 5, none⟩ (.bool el)).setCell ⟨w.heap.size + 1, 6, none⟩ (.int .i64 ef)).heap[q]? = some (.cells c T (0, 0)) := fun q c T a1 a2 a3 h => by
      rw [oth7 _ a3]
      exact HZ2.out q c T a1 a2 h
    have hl := HL.out
    exact ⟨⟨rfl, bput7 HB2.out (by omega) _ _ _ _ _ _ _, hoth _ _ _ (by omega) (by omega) (by omega) HZ.out, hq, ⟨hoth _ _ _ (by omega) (by omega) (by omega) HE.out.1, hoth _ _ _ (by omega) (by omega) (by omega) HE.out.2.1, hoth _ _ _ (by omega) (by omega) (by omega) HE.out.2.2⟩, HC.out⟩,
      fun q ob h1 h2 h3 => by
        rw [oth7 _ (show q ≠ w.heap.size + 1 from fun e => by rw [e, HM7'.out] at h2; injection h2 with h2; subst h2; cases h3)]; exact h2,
      fun q cc h2 => by
        rw [oth7 _ (show q ≠ w.heap.size + 1 from fun e => by rw [e, HM7'.out] at h2; injection h2 with h2; injection h2 with _ h2; cases h2)]; exact h2⟩
  case hdone =>
    rintro z W hfin ⟨a, b, c, d, -, f⟩ hK
    obtain ⟨p, hp, hg⟩ := hfin
    rw [a] at hg
    have hend : p = EF := by
      rw [← f, hp]
      show _ = (if _ then _ else _)
      rw [hg, if_neg (by decide)]
    subst hend
    rw [hp] at d
    have HE : Hid (∃ e, atC s.xs pg p = stC p.1 p.2 (P.at' p.1 pg p.2) e) := ⟨_, rfl⟩
    obtain ⟨⟨ep, er, el, ef⟩, he⟩ := HE.out
    have HA := hid he
    have d' : W.heap[w.heap.size + 1]? = some (.cells (atC s.xs pg p) 97 (0, 0)) := d
    rw [he] at d'
    generalize P.at' p.1 pg p.2 = aa at *
    have HD := hid d'
    have HZ := hid c
    have HB := hid b
    obtain ⟨g0, g1, g2, g3, g4, g5, g6⟩ := seven d'
    obtain ⟨x0, x1, x2, x3, x4, x5, x6⟩ := seven c
    obtain ⟨y0, y1, y2, y3, y4, y5, y6⟩ := free7 c
    have hzz : w.heap.size + 1 < W.heap.size := lt_of_block d'
    have hK5 : W.heap[w.heap.size + 5]? = some (.deferred (some [])) := by rw [← Z0]; exact hK
    have HK := hid hK5
    clear a b c d d' f hp hg HE he hK hK5
    gi_wp2
    have hK' := (oth7 W (m := w.heap.size + 5) (g := w.heap.size) (by omega) (.int .i64 p.1) (.int .i64 p.2) (.int .i64 aa) (.bool ep) (.int .i64 er) (.bool el) (.int .i64 ef)).trans HK.out
    refine ⟨by simp, .inl ⟨_, _, rfl, run_takeDeferred hK', ?_⟩⟩
    have hr := put7 HZ.out (.int .i64 p.1) (.int .i64 p.2) (.int .i64 aa) (.bool ep) (.int .i64 er) (.bool el) (.int .i64 ef)
    have hb := bput7 HB.out (Nat.le_refl _) (.int .i64 p.1) (.int .i64 p.2) (.int .i64 aa) (.bool ep) (.int .i64 er) (.bool el) (.int .i64 ef)
    refine ⟨_, results_cell_row rfl _ _ w.heap.size 97 _ (0, 0) _ rfl ((World.putObj_heap_other (by omega)).trans hr) Tryz.underlying97 rfl size97, ?_, hb.trans ((Tw.put _ _ _).below (by omega))⟩
    rw [HA.out]
theorem tend_at {u : Si} {w : World} {t : Nat} {o root : Int} {s : Sm} {k : Nat} (hT : IsT u w t 1 o root) (h : Wo u w s k) (pg : Int) (lo : Nat) (hlo : lo ≤ 3) :
    Calls Tryz.prog 84 #[.pointer (some ⟨t, 0, none⟩), .int .i64 pg, .int .i64 lo] w fun e w' => e = .returned (.agg (atC s.xs pg (endF s.xs pg lo 3 root))) ∧ Below w.heap.size w w' :=
  callsIn_wide.1 (end_in hT h pg lo hlo)
end Go.Proofs.YtpfmmlbakbhklaaGreatDoor
namespace Go.Proofs.YtpfmmlbakbhklaaGreatDoor
open Go.RowKit
section
variable {u : Si} {w : World} {t : Nat} {st o root : Int} {s : Sm} {k : Nat}
theorem newS_yes {s : Sm} {o : Int} {ent : Nat → P.En} (g : newE s o = 0) : newS s o ent = ⟨laidK s.xs (newF s o) ent 16, O.kL s.ds 3 o⟩ := if_pos g
theorem newS_no {s : Sm} {o : Int} {ent : Nat → P.En} (g : newE s o ≠ 0) : newS s o ent = s := if_neg g
theorem kL_no {ds : List O.Ds} {o : Int} (h : O.kE ds 3 o ≠ 0) : O.kL ds 3 o = ds := by
  unfold O.kL O.kE at *
  cases hf : O.fr ds with
  | nil => rfl
  | cons f q =>
    rw [hf] at h
    simp only at h ⊢
    unfold O.tL
    rw [if_neg h]
set_option maxRecDepth 100000 in
set_option maxHeartbeats 2000000 in
theorem new_none (hT : IsT u w t st o root) (h : Wo u w s k) (hk : k + 20 ≤ bnd) :
    Calls Tryz.prog 71 #[.pointer (some ⟨t, 0, none⟩), .func (.func 72) #[] #[]] w fun r w' => r = .returned (.tuple #[.int .i64 (if newE s o = 0 then newF s o else 0), .int .i64 (newE s o)]) ∧ Wo u w' (newS s o none16) (k + 16) ∧ Ch u w w' := by
  have HT := hid hT
  have HW := hid h
  have HK := hid hk
  have hT1 := hT.below (Below.refl w.heap.size w).drew
  have hW1 := h.drew
  obtain ⟨-, -, c2, c3, -⟩ := hT1.cells
  have HC := hid (O.take_at hW1.pool 3 o hW1.tab)
  have hS : ∀ w', Ch u w.drew w' → w'.cell? ⟨t, 2, none⟩ = some (.pointer (some ⟨u.pp, 0, none⟩)) ∧ w'.cell? ⟨t, 3, none⟩ = some (.int .i64 o) := fun w' c => ⟨(hT1.ch hW1 c).cells.2.2.1, (hT1.ch hW1 c).cells.2.2.2.1⟩
  have HS := hid hS
  have HE := hid (show newE s o = O.kE s.ds 3 o from rfl)
  have HF := hid (show newF s o = O.kF s.ds 3 o from rfl)
  have HL := hid (fun (g : newE s o = 0) => newS_yes (ent := none16) g)
  have HL2 := hid (fun (g : newE s o ≠ 0) => And.intro (newS_no (ent := none16) g) (show O.kL s.ds 3 o = s.ds from kL_no g))
  rw [← HE.out, ← HF.out] at HC
  generalize newS s o none16 = sn at *
  generalize newE s o = ee at *
  generalize newF s o = ff at *
  generalize hds : O.kL s.ds 3 o = ds' at *
  clear hT h hk hT1 hW1 hS hds HE HF
  by_cases hee : ee = 0
  · subst hee
    rw [if_pos rfl]
    have HL' := hid (HL.out rfl)
    clear HL HL2
    go_enter Tryz.func71, Tryz.ntmps71
    go_wp2
    go_region_held3 (fun w' => w'.cell? ⟨t, 2, none⟩ = some (.pointer (some ⟨u.pp, 0, none⟩)) ∧ w'.cell? ⟨t, 3, none⟩ = some (.int .i64 o)) (first | exact ⟨c2, c3⟩ | assumption)
      (first | (go_at_call 111; refine HC.out.mono ?_; rintro r w2 ⟨rfl, hP2, hB2⟩; have hS2 := HS.out _ (.of_bt hB2); have HP2 := hid hP2; have HB2 := hid hB2; clear hP2 hB2))
    all_goals
      have hW2 : Wo u w2 ⟨s.xs, ds'⟩ k := HW.out.drew.turn HP2.out HB2.out
      have hC2 : Ch u w w2 := (Ch.of_below (Below.refl _ _).drew).trans (.of_bt HB2.out)
      have HW2 := hid hW2
      have HC2 := hid hC2
      have HT2 := hid (HT.out.ch HW.out hC2)
      clear hW2 hC2 hS2 c2 c3
      go_wp2
      go_loopw [24] (fun i wr => ∃ j : Nat, j ≤ 16 ∧ i = .int .i64 j ∧ Wo u wr ⟨laidK s.xs ff none16 j, ds'⟩ (k + j) ∧ Ch u w wr) (fun i _ => 16 - (intOf i).toNat)
      case atStart => exact ⟨0, by omega, rfl, HW2.out, HC2.out⟩
      case round =>
        obtain ⟨j, hj, rfl, hWr, hCr⟩ := hrel
        have HWr := hid hWr
        have HCr := hid hCr
        have HTr := hid (HT.out.ch HW.out hCr)
        have HJ := hid hj
        clear hWr hCr
        by_cases h16 : j < 16
        · have HPL := hid (fun W => P.place_at ff j 0 W)
          have HEN := hid (fun W => (show Calls Tryz.prog 72 #[.int .i64 j] W fun r w' => r = .returned (P.eV (none16 j)) ∧ Below W.heap.size W w' from nothing_at (j : Int) W))
          have HLA := hid (fun w1 (b : Below wr.heap.size wr w1) => lay_at' (HTr.out.below b) (HWr.out.below b) (by have := HK.out; omega) (P.at' ff j 0) (none16 j))
          have HNX := hid (show lay ⟨laidK s.xs ff none16 j, ds'⟩ (P.at' ff j 0) (none16 j) = ⟨laidK s.xs ff none16 (j + 1), ds'⟩ from rfl)
          rw [HNX.out] at HLA
          generalize hla : laidK s.xs ff none16 (j + 1) = xs' at *
          generalize P.at' ff j 0 = a at *
          generalize hen : none16 j = en1 at *
          obtain ⟨ep, er, el, ef⟩ := en1
          unfold P.eV at HEN HLA
          simp only at HEN HLA
          go_wp2_with fail
          refine (HPL.out _).mono ?_
          rintro r w3 ⟨rfl, hw3⟩
          rw [hw3]
          clear hw3 w3
          go_wp2_with fail
          refine (HEN.out _).mono ?_
          rintro r w3 ⟨rfl, hB3⟩
          have HB3 := hid hB3
          clear hB3
          go_wp2_with fail
          refine (HLA.out _ HB3.out).mono ?_
          rintro r w4 ⟨rfl, hW4, hC4⟩
          have HW4 := hid hW4
          have HC4 := hid (HCr.out.trans ((Ch.of_below HB3.out).trans hC4))
          clear hW4 hC4
          go_wp2
          refine ⟨⟨j + 1, by omega, by go_num, by rw [hla]; exact HW4.out, HC4.out⟩, by simp [intOf]; omega⟩
        · obtain rfl : j = 16 := by omega
          have HN := HL'
          go_wp2
          go_ret2
          exact ⟨rfl, by rw [HN.out]; exact HWr.out, HCr.out⟩
  · have HN := hid (HL2.out hee)
    rw [if_neg hee]
    have hee' : (ee != 0) = true := by simpa using hee
    clear HL HL2 hee
    go_enter Tryz.func71, Tryz.ntmps71
    go_wp2
    go_region_held3 (fun w' => w'.cell? ⟨t, 2, none⟩ = some (.pointer (some ⟨u.pp, 0, none⟩)) ∧ w'.cell? ⟨t, 3, none⟩ = some (.int .i64 o)) (first | exact ⟨c2, c3⟩ | assumption)
      (first | (go_at_call 111; refine HC.out.mono ?_; rintro r w2 ⟨rfl, hP2, hB2⟩; have hS2 := HS.out _ (.of_bt hB2); have HP2 := hid hP2; have HB2 := hid hB2; clear hP2 hB2))
    all_goals
      have hW2 : Wo u w2 ⟨s.xs, ds'⟩ k := HW.out.drew.turn HP2.out HB2.out
      have hC2 : Ch u w w2 := (Ch.of_below (Below.refl _ _).drew).trans (.of_bt HB2.out)
      have HW2 := hid hW2
      have HC2 := hid hC2
      clear hW2 hC2 hS2 c2 c3
      go_wp2
      go_ret2
      refine ⟨rfl, ?_, HC2.out⟩
      rw [HN.out.1]
      have := HW2.out
      rw [HN.out.2] at this
      exact this.mono (by omega)
set_option maxRecDepth 100000 in
set_option maxHeartbeats 2000000 in
theorem new_part (hT : IsT u w t st o root) (h : Wo u w s k) (hk : k + 20 ≤ bnd) (fr v a0 : Int) (pp : Bool) (pr : Int) (pl : Bool) (pf : Int) (h0 : 0 ≤ pf) (h1 : pf ≤ 4095) :
    Calls Tryz.prog 71 #[.pointer (some ⟨t, 0, none⟩), .func (.func 98) #[.agg #[.int .i64 fr, .int .i64 v, .int .i64 a0, .bool pp, .int .i64 pr, .bool pl, .int .i64 pf]] #[]] w fun r w' => r = .returned (.tuple #[.int .i64 (if newE s o = 0 then newF s o else 0), .int .i64 (newE s o)]) ∧ Wo u w' (newS s o (part ⟨pp, pr, pl, pf⟩)) (k + 16) ∧ Ch u w w' := by
  have HT := hid hT
  have HW := hid h
  have HK := hid hk
  have H01 := hid (And.intro h0 h1)
  have hT1 := hT.below (Below.refl w.heap.size w).drew
  have hW1 := h.drew
  obtain ⟨-, -, c2, c3, -⟩ := hT1.cells
  have HC := hid (O.take_at hW1.pool 3 o hW1.tab)
  have hS : ∀ w', Ch u w.drew w' → w'.cell? ⟨t, 2, none⟩ = some (.pointer (some ⟨u.pp, 0, none⟩)) ∧ w'.cell? ⟨t, 3, none⟩ = some (.int .i64 o) := fun w' c => ⟨(hT1.ch hW1 c).cells.2.2.1, (hT1.ch hW1 c).cells.2.2.2.1⟩
  have HS := hid hS
  have HE := hid (show newE s o = O.kE s.ds 3 o from rfl)
  have HF := hid (show newF s o = O.kF s.ds 3 o from rfl)
  have HL := hid (fun (g : newE s o = 0) => newS_yes (ent := (part ⟨pp, pr, pl, pf⟩)) g)
  have HL2 := hid (fun (g : newE s o ≠ 0) => And.intro (newS_no (ent := (part ⟨pp, pr, pl, pf⟩)) g) (show O.kL s.ds 3 o = s.ds from kL_no g))
  rw [← HE.out, ← HF.out] at HC
  generalize newS s o (part ⟨pp, pr, pl, pf⟩) = sn at *
  generalize newE s o = ee at *
  generalize newF s o = ff at *
  generalize hds : O.kL s.ds 3 o = ds' at *
  clear h0 h1 hT h hk hT1 hW1 hS hds HE HF
  by_cases hee : ee = 0
  · subst hee
    rw [if_pos rfl]
    have HL' := hid (HL.out rfl)
    clear HL HL2
    go_enter Tryz.func71, Tryz.ntmps71
    go_wp2
    go_region_held3 (fun w' => w'.cell? ⟨t, 2, none⟩ = some (.pointer (some ⟨u.pp, 0, none⟩)) ∧ w'.cell? ⟨t, 3, none⟩ = some (.int .i64 o)) (first | exact ⟨c2, c3⟩ | assumption)
      (first | (go_at_call 111; refine HC.out.mono ?_; rintro r w2 ⟨rfl, hP2, hB2⟩; have hS2 := HS.out _ (.of_bt hB2); have HP2 := hid hP2; have HB2 := hid hB2; clear hP2 hB2))
    all_goals
      have hW2 : Wo u w2 ⟨s.xs, ds'⟩ k := HW.out.drew.turn HP2.out HB2.out
      have hC2 : Ch u w w2 := (Ch.of_below (Below.refl _ _).drew).trans (.of_bt HB2.out)
      have HW2 := hid hW2
      have HC2 := hid hC2
      have HT2 := hid (HT.out.ch HW.out hC2)
      clear hW2 hC2 hS2 c2 c3
      go_wp2
      go_loopw [24] (fun i wr => ∃ j : Nat, j ≤ 16 ∧ i = .int .i64 j ∧ Wo u wr ⟨laidK s.xs ff (part ⟨pp, pr, pl, pf⟩) j, ds'⟩ (k + j) ∧ Ch u w wr) (fun i _ => 16 - (intOf i).toNat)
      case atStart => exact ⟨0, by omega, rfl, HW2.out, HC2.out⟩
      case round =>
        obtain ⟨j, hj, rfl, hWr, hCr⟩ := hrel
        have HWr := hid hWr
        have HCr := hid hCr
        have HTr := hid (HT.out.ch HW.out hCr)
        have HJ := hid hj
        clear hWr hCr
        by_cases h16 : j < 16
        · have HPL := hid (fun W => P.place_at ff j 0 W)
          have HEN := hid (fun W => (show Calls Tryz.prog 98 #[.agg #[.int .i64 fr, .int .i64 v, .int .i64 a0, .bool pp, .int .i64 pr, .bool pl, .int .i64 pf], .int .i64 j] W fun r w' => r = .returned (P.eV ((part ⟨pp, pr, pl, pf⟩) j)) ∧ Below W.heap.size W w' from part_at fr v a0 j ⟨pp, pr, pl, pf⟩ W H01.out.1 H01.out.2 (by omega) (by omega)))
          have HLA := hid (fun w1 (b : Below wr.heap.size wr w1) => lay_at' (HTr.out.below b) (HWr.out.below b) (by have := HK.out; omega) (P.at' ff j 0) ((part ⟨pp, pr, pl, pf⟩) j))
          have HNX := hid (show lay ⟨laidK s.xs ff (part ⟨pp, pr, pl, pf⟩) j, ds'⟩ (P.at' ff j 0) ((part ⟨pp, pr, pl, pf⟩) j) = ⟨laidK s.xs ff (part ⟨pp, pr, pl, pf⟩) (j + 1), ds'⟩ from rfl)
          rw [HNX.out] at HLA
          generalize hla : laidK s.xs ff (part ⟨pp, pr, pl, pf⟩) (j + 1) = xs' at *
          generalize P.at' ff j 0 = a at *
          generalize hen : (part ⟨pp, pr, pl, pf⟩) j = en1 at *
          obtain ⟨ep, er, el, ef⟩ := en1
          unfold P.eV at HEN HLA
          simp only at HEN HLA
          go_wp2_with fail
          refine (HPL.out _).mono ?_
          rintro r w3 ⟨rfl, hw3⟩
          rw [hw3]
          clear hw3 w3
          go_wp2_with fail
          refine (HEN.out _).mono ?_
          rintro r w3 ⟨rfl, hB3⟩
          have HB3 := hid hB3
          clear hB3
          go_wp2_with fail
          refine (HLA.out _ HB3.out).mono ?_
          rintro r w4 ⟨rfl, hW4, hC4⟩
          have HW4 := hid hW4
          have HC4 := hid (HCr.out.trans ((Ch.of_below HB3.out).trans hC4))
          clear hW4 hC4
          go_wp2
          refine ⟨⟨j + 1, by omega, by go_num, by rw [hla]; exact HW4.out, HC4.out⟩, by simp [intOf]; omega⟩
        · obtain rfl : j = 16 := by omega
          have HN := HL'
          go_wp2
          go_ret2
          exact ⟨rfl, by rw [HN.out]; exact HWr.out, HCr.out⟩
  · have HN := hid (HL2.out hee)
    rw [if_neg hee]
    have hee' : (ee != 0) = true := by simpa using hee
    clear HL HL2 hee
    go_enter Tryz.func71, Tryz.ntmps71
    go_wp2
    go_region_held3 (fun w' => w'.cell? ⟨t, 2, none⟩ = some (.pointer (some ⟨u.pp, 0, none⟩)) ∧ w'.cell? ⟨t, 3, none⟩ = some (.int .i64 o)) (first | exact ⟨c2, c3⟩ | assumption)
      (first | (go_at_call 111; refine HC.out.mono ?_; rintro r w2 ⟨rfl, hP2, hB2⟩; have hS2 := HS.out _ (.of_bt hB2); have HP2 := hid hP2; have HB2 := hid hB2; clear hP2 hB2))
    all_goals
      have hW2 : Wo u w2 ⟨s.xs, ds'⟩ k := HW.out.drew.turn HP2.out HB2.out
      have hC2 : Ch u w w2 := (Ch.of_below (Below.refl _ _).drew).trans (.of_bt HB2.out)
      have HW2 := hid hW2
      have HC2 := hid hC2
      clear hW2 hC2 hS2 c2 c3
      go_wp2
      go_ret2
      refine ⟨rfl, ?_, HC2.out⟩
      rw [HN.out.1]
      have := HW2.out
      rw [HN.out.2] at this
      exact this.mono (by omega)
set_option maxHeartbeats 1000000 in
theorem hang_none (hT : IsT u w t st o root) (h : Wo u w s k) (hk : k + 20 ≤ bnd) (a : Int) :
    Calls Tryz.prog 97 #[.pointer (some ⟨t, 0, none⟩), .int .i64 a, .func (.func 72) #[] #[]] w fun r w' => r = .returned (.int .i64 (newE s o)) ∧ Wo u w' (hangS s o a none16) (k + 17) ∧ Ch u w w' := by
  have HT := hid hT
  have HW := hid h
  have HK := hid hk
  have HC := hid (new_none hT h hk )
  have HY := hid (fun (g : newE s o = 0) => show hangS s o a none16 = lay (newS s o none16) a ⟨true, 0, false, newF s o⟩ from if_pos g)
  have HN := hid (fun (g : newE s o ≠ 0) => And.intro (show hangS s o a none16 = s from if_neg g) (newS_no (ent := none16) g))
  generalize hangS s o a none16 = sh at *
  generalize newS s o none16 = sn at *
  generalize newE s o = ee at *
  generalize newF s o = ff at *
  clear hT h hk
  by_cases hee : ee = 0
  · subst hee
    simp only [if_true] at HC
    have HY' := hid (HY.out rfl)
    clear HY HN
    go_enter Tryz.func97, Tryz.ntmps97
    go_wp2_with fail
    refine HC.out.mono ?_
    rintro r w2 ⟨rfl, hW2, hC2⟩
    have HW2 := hid hW2
    have HC2 := hid hC2
    have HT2 := hid (HT.out.ch HW.out hC2)
    clear hW2 hC2
    go_wp2_with fail
    refine (lay_at' HT2.out HW2.out (by have := HK.out; omega) a ⟨true, 0, false, ff⟩).mono ?_
    rintro r w3 ⟨rfl, hW3, hC3⟩
    have HW3 := hid hW3
    have HC3 := hid (HC2.out.trans hC3)
    clear hW3 hC3
    go_wp2
    go_ret
    exact ⟨rfl, by rw [HY'.out]; exact HW3.out, HC3.out⟩
  · have hee' : (ee != 0) = true := by simpa using hee
    rw [if_neg hee] at HC
    have HN' := hid (HN.out hee)
    clear HY HN hee
    go_enter Tryz.func97, Tryz.ntmps97
    go_wp2_with fail
    refine HC.out.mono ?_
    rintro r w2 ⟨rfl, hW2, hC2⟩
    have HW2 := hid hW2
    have HC2 := hid hC2
    clear hW2 hC2
    go_wp2
    go_ret
    refine ⟨rfl, ?_, HC2.out⟩
    rw [HN'.out.1]
    have := HW2.out
    rw [HN'.out.2] at this
    exact this.mono (by omega)
set_option maxHeartbeats 1000000 in
theorem hang_part (hT : IsT u w t st o root) (h : Wo u w s k) (hk : k + 20 ≤ bnd) (a : Int) (fr v a0 : Int) (pp : Bool) (pr : Int) (pl : Bool) (pf : Int) (h0 : 0 ≤ pf) (h1 : pf ≤ 4095) :
    Calls Tryz.prog 97 #[.pointer (some ⟨t, 0, none⟩), .int .i64 a, .func (.func 98) #[.agg #[.int .i64 fr, .int .i64 v, .int .i64 a0, .bool pp, .int .i64 pr, .bool pl, .int .i64 pf]] #[]] w fun r w' => r = .returned (.int .i64 (newE s o)) ∧ Wo u w' (hangS s o a (part ⟨pp, pr, pl, pf⟩)) (k + 17) ∧ Ch u w w' := by
  have HT := hid hT
  have HW := hid h
  have HK := hid hk
  have HC := hid (new_part hT h hk fr v a0 pp pr pl pf h0 h1)
  have HY := hid (fun (g : newE s o = 0) => show hangS s o a (part ⟨pp, pr, pl, pf⟩) = lay (newS s o (part ⟨pp, pr, pl, pf⟩)) a ⟨true, 0, false, newF s o⟩ from if_pos g)
  have HN := hid (fun (g : newE s o ≠ 0) => And.intro (show hangS s o a (part ⟨pp, pr, pl, pf⟩) = s from if_neg g) (newS_no (ent := (part ⟨pp, pr, pl, pf⟩)) g))
  generalize hangS s o a (part ⟨pp, pr, pl, pf⟩) = sh at *
  generalize newS s o (part ⟨pp, pr, pl, pf⟩) = sn at *
  generalize newE s o = ee at *
  generalize newF s o = ff at *
  clear hT h hk
  by_cases hee : ee = 0
  · subst hee
    simp only [if_true] at HC
    have HY' := hid (HY.out rfl)
    clear HY HN
    go_enter Tryz.func97, Tryz.ntmps97
    go_wp2_with fail
    refine HC.out.mono ?_
    rintro r w2 ⟨rfl, hW2, hC2⟩
    have HW2 := hid hW2
    have HC2 := hid hC2
    have HT2 := hid (HT.out.ch HW.out hC2)
    clear hW2 hC2
    go_wp2_with fail
    refine (lay_at' HT2.out HW2.out (by have := HK.out; omega) a ⟨true, 0, false, ff⟩).mono ?_
    rintro r w3 ⟨rfl, hW3, hC3⟩
    have HW3 := hid hW3
    have HC3 := hid (HC2.out.trans hC3)
    clear hW3 hC3
    go_wp2
    go_ret
    exact ⟨rfl, by rw [HY'.out]; exact HW3.out, HC3.out⟩
  · have hee' : (ee != 0) = true := by simpa using hee
    rw [if_neg hee] at HC
    have HN' := hid (HN.out hee)
    clear HY HN hee
    go_enter Tryz.func97, Tryz.ntmps97
    go_wp2_with fail
    refine HC.out.mono ?_
    rintro r w2 ⟨rfl, hW2, hC2⟩
    have HW2 := hid hW2
    have HC2 := hid hC2
    clear hW2 hC2
    go_wp2
    go_ret
    refine ⟨rfl, ?_, HC2.out⟩
    rw [HN'.out.1]
    have := HW2.out
    rw [HN'.out.2] at this
    exact this.mono (by omega)
end
end Go.Proofs.YtpfmmlbakbhklaaGreatDoor
namespace Go.Proofs.YtpfmmlbakbhklaaGreatDoor
open Go.RowKit

set_option maxHeartbeats 400000 in
theorem notZero_at (x : Int) (w : World) : Calls Tryz.prog 144 #[.int .u64 x] w fun r w' => r = .returned (.bool (x != 0)) ∧ w' = w := by
  go_enter Tryz.func144, Tryz.ntmps144
  go_wp2
  go_ret
  exact ⟨rfl, rfl⟩
set_option maxHeartbeats 1000000 in
theorem index_some (b off c n : Nat) (f : Nat → Int) (z : Bool) (hzz : z = true ↔ ∀ i, i < n → f i = 0) (w : World) (hn : n ≤ 65536) (h1 : ∀ i, i < n → w.cell? ⟨b, off + i, none⟩ = some (.int .u64 (f i))) :
    Calls Tryz.prog 171 #[.slice (some ⟨b, off, none⟩) n c, .func (.func 144) #[] #[]] w fun r w' => (∃ x : Int, r = .returned (.int .i64 x) ∧ decide (0 ≤ x) = !z) ∧ w' = w := by
  have HH := hid h1
  have HB := hid hzz
  clear h1 hzz
  go_enter Tryz.func171, Tryz.ntmps171
  go_wp2
  go_loopw [8] (fun i wr => ∃ k : Nat, k ≤ n ∧ i = .int .i64 k ∧ wr = w ∧ ∀ j, j < k → f j = 0) (fun i _ => n - (intOf i).toNat)
  case atStart => exact ⟨0, Nat.zero_le _, rfl, rfl, fun j hj => by omega⟩
  case round =>
    obtain ⟨k, hk, rfl, rfl, hz⟩ := hrel
    have HZ := hid hz
    clear hz
    by_cases hlt : k < n
    · have c1 := HH.out k hlt
      have HX := hid (fun W => notZero_at (f k) W)
      have HF := hid (show ∃ x, f k = x from ⟨_, rfl⟩)
      by_cases hx : f k = 0
      · rw [hx] at c1 HX
        have HX0 := hid hx
        clear hx
        go_wp2_with fail
        refine (HX.out _).mono ?_
        rintro r w2 ⟨rfl, rfl⟩
        go_wp2
        refine ⟨⟨k + 1, by omega, by go_num, by trivial, fun j hj => ?_⟩, by simp [intOf]; omega⟩
        rcases Nat.lt_or_ge j k with h | h
        · exact HZ.out j h
        · obtain rfl : j = k := by omega
          exact HX0.out
      · have hxb : (f k != 0) = true := by simpa using hx
        have HX1 := hid hx
        rw [hxb] at HX
        have HX2 := hid (show z = false by
          cases hz : z
          · rfl
          · exact absurd (HB.out.1 hz k hlt) HX1.out)
        generalize f k = x at c1 HX
        clear hx HF hxb HX1 HZ
        go_wp2_with fail
        refine (HX.out _).mono ?_
        rintro r w2 ⟨rfl, rfl⟩
        go_wp2
        go_ret
        refine ⟨⟨_, rfl, ?_⟩, rfl⟩
        rw [HX2.out, decide_eq_true (by omega)]
        rfl
    · have HG := hid (show k = n by omega)
      go_wp2
      go_ret
      refine ⟨⟨_, rfl, ?_⟩, rfl⟩
      rw [HB.out.2 (fun i hi => HZ.out i (by have := HG.out; omega))]
      rfl
theorem index_nil (q : Option Addr) (c : Nat) (w : World) :
    Calls Tryz.prog 171 #[.slice q 0 c, .func (.func 144) #[] #[]] w fun r w' => (∃ x : Int, r = .returned (.int .i64 x) ∧ x = -1) ∧ w' = w := by
  go_enter Tryz.func171, Tryz.ntmps171
  go_wp2
  refine wp_loop_rounds 1 ?_
  rw [rounds_succ]
  go_wp2
  go_ret
  exact ⟨⟨_, rfl, rfl⟩, rfl⟩
theorem allZ (xs : List Int) : (xs.all fun x => x == 0) = decide (∀ i, i < xs.length → xs.getD i 0 = 0) := by
  rw [Bool.eq_iff_iff, List.all_eq_true, decide_eq_true_eq]
  constructor
  · intro h i hi
    have := h _ (List.getElem_mem hi)
    simpa [List.getD, hi] using this
  · intro h x hx
    obtain ⟨i, hi, rfl⟩ := List.mem_iff_getElem.1 hx
    have := h i hi
    simpa [List.getD, hi] using this
theorem index_at {w : World} {v : Value} {xs : List Int} (h : Lies w v xs) :
    Calls Tryz.prog 171 #[v, .func (.func 144) #[] #[]] w fun r w' => (∃ x : Int, r = .returned (.int .i64 x) ∧ decide (0 ≤ x) = !(xs.all fun x => x == 0)) ∧ w' = w := by
  obtain ⟨hn, q, c, rfl, hq⟩ := h
  by_cases hne : xs = []
  · subst hne
    refine (index_nil q c w).mono ?_
    rintro r w' ⟨⟨x, rfl, rfl⟩, rfl⟩
    exact ⟨⟨_, rfl, rfl⟩, rfl⟩
  · obtain ⟨b, off, rfl, -, h1⟩ := hq hne
    refine (index_some b off c xs.length (fun i => xs.getD i 0) (xs.all fun x => x == 0) (by rw [allZ, decide_eq_true_eq]) w hn h1).mono ?_
    rintro r w' ⟨⟨x, rfl, hx⟩, rfl⟩
    exact ⟨⟨_, rfl, hx⟩, rfl⟩
set_option maxHeartbeats 400000 in
theorem contains_at {w : World} {v : Value} {xs : List Int} (h : Lies w v xs) :
    Calls Tryz.prog 143 #[v, .func (.func 144) #[] #[]] w fun r w' => r = .returned (.bool (!(xs.all fun x => x == 0))) ∧ w' = w := by
  have HI := hid (index_at h)
  generalize (!(xs.all fun x => x == 0)) = b at *
  clear h
  go_enter Tryz.func143, Tryz.ntmps143
  go_wp2_with fail
  refine HI.out.mono ?_
  rintro r w2 ⟨⟨x, rfl, hx⟩, rfl⟩
  have HX := hid hx
  clear hx
  go_wp2
  go_ret
  exact ⟨by rw [← HX.out]; rfl, rfl⟩
section
variable {u : Si} {w : World} {t : Nat} {st o root : Int} {s : Sm} {k : Nat}
set_option maxHeartbeats 400000 in
theorem empty_at (hT : IsT u w t st o root) (h : Wo u w s k) (fr v : Int) :
    Calls Tryz.prog 102 #[.pointer (some ⟨t, 0, none⟩), .agg (tbC fr v)] w fun r w' => r = .returned (.bool (empW s.xs fr)) ∧ Below w.heap.size w w' := by
  have hB := below_alloc w (.cells #[.int .i64 fr, .int .i64 v] 93)
  have HB := hid hB
  have HC := hid (words_at (hT.below hB) (h.below hB) fr v)
  have c0 := cell_new w #[.int .i64 fr, .int .i64 v] 93 0 rfl
  have c1 := cell_new w #[.int .i64 fr, .int .i64 v] 93 1 rfl
  have HE := hid (fun W (x : Value) (hl : Lies W x (cutW s.xs (P.at' fr 0 0) 16)) => contains_at hl)
  have HR := hid (show empW s.xs fr = ((cutW s.xs (P.at' fr 0 0) 16).all fun x => x == 0) from rfl)
  rw [HR.out]
  generalize ((cutW s.xs (P.at' fr 0 0) 16).all fun x => x == 0) = b at *
  clear hT h hB HR
  show Calls Tryz.prog 102 #[.pointer (some ⟨t, 0, none⟩), .agg #[.int .i64 fr, .int .i64 v]] w _
  go_enter Tryz.func102, Tryz.ntmps102
  go_wp2_with fail
  refine HC.out.mono ?_
  rintro r w2 ⟨x, rfl, hL, hB2⟩
  have HE2 := hid (HE.out w2 x hL)
  have HB2 := hid hB2
  clear hL hB2
  go_wp2_with fail
  refine HE2.out.mono ?_
  rintro r w3 ⟨rfl, rfl⟩
  cases b
  all_goals
    go_wp2
    go_ret
    exact ⟨rfl, P.bgo HB.out HB2.out⟩
set_option maxHeartbeats 1000000 in
theorem retire_at (hT : IsT u w t st o root) (h : Wo u w s k) (f : Int) :
    Calls Tryz.prog 73 #[.pointer (some ⟨t, 0, none⟩), .int .i64 f] w fun r w' => r = .returned (.tuple #[]) ∧ Wo u w' ⟨s.xs, O.tL s.ds f 5 o⟩ k ∧ Ch u w w' := by
  have HW := hid h
  have hT1 := hT.below (Below.refl w.heap.size w).drew
  have hW1 := h.drew
  obtain ⟨-, -, c2, c3, -⟩ := hT1.cells
  have HC := hid (O.turn_at hW1.pool f 5 o hW1.tab)
  have hS : ∀ w', Ch u w.drew w' → w'.cell? ⟨t, 2, none⟩ = some (.pointer (some ⟨u.pp, 0, none⟩)) ∧ w'.cell? ⟨t, 3, none⟩ = some (.int .i64 o) := fun w' c => ⟨(hT1.ch hW1 c).cells.2.2.1, (hT1.ch hW1 c).cells.2.2.2.1⟩
  have HS := hid hS
  generalize O.tL s.ds f 5 o = ds' at *
  generalize O.tE s.ds f 5 o = ee at *
  clear hT h hT1 hW1 hS
  go_enter Tryz.func73, Tryz.ntmps73
  go_wp2
  go_region_held3 (fun w' => w'.cell? ⟨t, 2, none⟩ = some (.pointer (some ⟨u.pp, 0, none⟩)) ∧ w'.cell? ⟨t, 3, none⟩ = some (.int .i64 o)) (first | exact ⟨c2, c3⟩ | assumption)
    (first | (go_at_call 112; refine HC.out.mono ?_; rintro r w2 ⟨rfl, hP2, hB2⟩; have hS2 := HS.out _ (.of_bt hB2); have HP2 := hid hP2; have HB2 := hid hB2; clear hP2 hB2))
  all_goals
    have hW2 : Wo u w2 ⟨s.xs, ds'⟩ k := HW.out.drew.turn HP2.out HB2.out
    have hC2 : Ch u w w2 := (Ch.of_below (Below.refl _ _).drew).trans (.of_bt HB2.out)
    have HW2 := hid hW2
    have HC2 := hid hC2
    clear hW2 hC2 hS2 c2 c3
    go_wp2
    go_end0
    exact ⟨rfl, HW2.out, HC2.out⟩
end
end Go.Proofs.YtpfmmlbakbhklaaGreatDoor
namespace Go.Proofs.YtpfmmlbakbhklaaGreatDoor
open Go.RowKit
section
variable {u : Si} {w : World} {t : Nat} {st o root : Int} {s : Sm} {k : Nat}
def sqC (s : Sm) (root pg : Int) : Array Value := if qE s root pg = 0 then atC s.xs pg (fd s root pg) else zeC
theorem ftE_live (pg : Int) : ftE 1 pg = if P.btw pg 0 65535 = true then 0 else 2 := rfl
/-- What end tells, written out. -/
theorem tend_lit (hT : IsT u w t 1 o root) (h : Wo u w s k) (pg : Int) :
    Calls Tryz.prog 84 #[.pointer (some ⟨t, 0, none⟩), .int .i64 pg, .int .i64 0] w fun e w' => e = .returned (.agg #[.int .i64 (fd s root pg).1, .int .i64 ((fd s root pg).2 : Nat), .int .i64 (P.at' (fd s root pg).1 pg (fd s root pg).2), .bool (fdE s root pg).p, .int .i64 (fdE s root pg).r, .bool (fdE s root pg).l, .int .i64 (fdE s root pg).f]) ∧ Below w.heap.size w w' :=
  tend_at hT h pg 0 (by decide)
theorem sqC_lit {s : Sm} {root pg : Int} (h : qE s root pg = 0) : sqC s root pg = #[.int .i64 (fd s root pg).1, .int .i64 ((fd s root pg).2 : Nat), .int .i64 (P.at' (fd s root pg).1 pg (fd s root pg).2), .bool (fdE s root pg).p, .int .i64 (fdE s root pg).r, .bool (fdE s root pg).l, .int .i64 (fdE s root pg).f] := if_pos h

set_option maxHeartbeats 2000000 in
theorem find_at (hT : IsT u w t 1 o root) (h : Wo u w s k) (pg : Int) :
    Calls Tryz.prog 46 #[.pointer (some ⟨t, 0, none⟩), .int .i64 pg] w fun r w' => r = .returned (.tuple #[.agg (sqC s root pg), .int .i64 (qE s root pg)]) ∧ Below w.heap.size w w' := by
  have hB := below_alloc w (.cells zeC 97)
  have hN := heap_alloc_new w (.cells zeC 97)
  have HF := hid (fault_at (hT.below hB) pg)
  have HB := hid hB
  have HN := hid hN
  rw [ftE_live] at HF
  cases hb : P.btw pg 0 65535
  · have hq : qE s root pg = 2 := by unfold qE; rw [hb, if_pos rfl]
    have hfd : sqC s root pg = zeC := by unfold sqC; rw [hq, if_neg (by decide)]
    rw [hq, hfd]
    rw [hb, if_neg (by decide)] at HF
    obtain ⟨x0, x1, x2, x3, x4, x5, x6⟩ := seven hN
    obtain ⟨y0, y1, y2, y3, y4, y5, y6⟩ := free7 hN
    clear hT h hb hq hfd hB hN
    go_enter Tryz.func46, Tryz.ntmps46
    go_wp2_with fail
    refine HF.out.mono ?_
    rintro r w1 ⟨rfl, rfl⟩
    go_wp2
    refine bodyPost_ret (P.results_row_tmp rfl _ _ w.heap.size _ rfl (run_loadVar_row _ _ 97 97 _ (0, 0) _ HN.out Tryz.underlying97 rfl size97)) rfl ?_
    exact ⟨rfl, HB.out⟩
  · rw [hb, if_pos rfl] at HF
    have HE := hid (tend_lit (hT.below hB) (h.below hB) pg)
    have HP := hid (fun g : (fdE s root pg).p = false => (show qE s root pg = 4 by unfold qE; rw [hb, if_neg (by decide), if_pos g]))
    have HQ := hid (fun g : (fdE s root pg).p = true => (show qE s root pg = 0 by unfold qE; rw [hb, if_neg (by decide), if_neg (by rw [g]; decide)]))
    have HZ := hid (fun g : qE s root pg = 4 => (show sqC s root pg = zeC by unfold sqC; rw [g, if_neg (by decide)]))
    have HL := hid (fun g : qE s root pg = 0 => sqC_lit g)
    generalize sqC s root pg = fc at *
    generalize P.at' (fd s root pg).1 pg (fd s root pg).2 = aa at *
    generalize (fd s root pg).1 = fr at *
    generalize (fd s root pg).2 = v at *
    generalize (fdE s root pg) = e at *
    obtain ⟨ep, er, el, ef⟩ := e
    simp only at HE HP HQ HL
    clear hT h hb hB hN
    cases ep
    · have hq := HP.out rfl
      have hf := HZ.out hq
      rw [hq, hf]
      clear hq hf
      go_enter Tryz.func46, Tryz.ntmps46
      go_wp2_with fail
      refine HF.out.mono ?_
      rintro r w1 ⟨rfl, rfl⟩
      go_wp2_with fail
      refine HE.out.mono ?_
      rintro r w2 ⟨rfl, hB2⟩
      have HN2 := hid (P.stay hB2 HN.out)
      have HB2 := hid (P.bgo HB.out hB2)
      obtain ⟨x0, x1, x2, x3, x4, x5, x6⟩ := seven (P.hkeep HN2.out (.cells #[.int .i64 fr, .int .i64 (v : Nat), .int .i64 aa, .bool false, .int .i64 er, .bool el, .int .i64 ef] 97))
      obtain ⟨y0, y1, y2, y3, y4, y5, y6⟩ := free7 (P.hkeep HN2.out (.cells #[.int .i64 fr, .int .i64 (v : Nat), .int .i64 aa, .bool false, .int .i64 er, .bool el, .int .i64 ef] 97))
      have HM := hid (P.hkeep HN2.out (.cells #[.int .i64 fr, .int .i64 (v : Nat), .int .i64 aa, .bool false, .int .i64 er, .bool el, .int .i64 ef] 97))
      have HB3 := hid (HB2.out.alloc HB2.out.size (.cells #[.int .i64 fr, .int .i64 (v : Nat), .int .i64 aa, .bool false, .int .i64 er, .bool el, .int .i64 ef] 97))
      clear hB2
      go_wp2
      refine bodyPost_ret (P.results_row_tmp rfl _ _ w.heap.size _ rfl (run_loadVar_row _ _ 97 97 _ (0, 0) _ (put7 HM.out _ _ _ _ _ _ _) Tryz.underlying97 rfl size97)) rfl ?_
      exact ⟨rfl, bput7 HB3.out (Nat.le_refl _) _ _ _ _ _ _ _⟩
    · have hq := HQ.out rfl
      have hf := HL.out hq
      rw [hq, hf]
      clear hq hf
      go_enter Tryz.func46, Tryz.ntmps46
      go_wp2_with fail
      refine HF.out.mono ?_
      rintro r w1 ⟨rfl, rfl⟩
      go_wp2_with fail
      refine HE.out.mono ?_
      rintro r w2 ⟨rfl, hB2⟩
      have HN2 := hid (P.stay hB2 HN.out)
      have HB2 := hid (P.bgo HB.out hB2)
      obtain ⟨x0, x1, x2, x3, x4, x5, x6⟩ := seven (P.hkeep HN2.out (.cells #[.int .i64 fr, .int .i64 (v : Nat), .int .i64 aa, .bool true, .int .i64 er, .bool el, .int .i64 ef] 97))
      obtain ⟨y0, y1, y2, y3, y4, y5, y6⟩ := free7 (P.hkeep HN2.out (.cells #[.int .i64 fr, .int .i64 (v : Nat), .int .i64 aa, .bool true, .int .i64 er, .bool el, .int .i64 ef] 97))
      have HM := hid (P.hkeep HN2.out (.cells #[.int .i64 fr, .int .i64 (v : Nat), .int .i64 aa, .bool true, .int .i64 er, .bool el, .int .i64 ef] 97))
      have HB3 := hid (HB2.out.alloc HB2.out.size (.cells #[.int .i64 fr, .int .i64 (v : Nat), .int .i64 aa, .bool true, .int .i64 er, .bool el, .int .i64 ef] 97))
      clear hB2
      go_wp2
      refine bodyPost_ret (P.results_row_tmp rfl _ _ w.heap.size _ rfl (run_loadVar_row _ _ 97 97 _ (0, 0) _ (put7 HM.out _ _ _ _ _ _ _) Tryz.underlying97 rfl size97)) rfl ?_
      exact ⟨rfl, bput7 HB3.out (Nat.le_refl _) _ _ _ _ _ _ _⟩
end
end Go.Proofs.YtpfmmlbakbhklaaGreatDoor
