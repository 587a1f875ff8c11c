/- What put, Map and Large return and leave. Conditions: the words and frames lie in memory; the tables are live; few calls have been counted. -/
import Derived.Test.YtpfmmlbakbhklaaGreatDoorN11
namespace Go.Proofs.YtpfmmlbakbhklaaGreatDoor
open Go.RowKit Go.Shelf
attribute [local go_sem] Oper.semAt_some

/-- What a round of put does. -/
def bodyS (o pg : Int) (lo : Nat) (e : P.En) (p : Int × Nat) (s : Sm) : Sm := if lo = p.2 then lay s (P.at' p.1 pg p.2) e else mkS s o pg p.1 p.2
def putC (o root pg : Int) (lo : Nat) (e : P.En) (l : Option (Int × Nat)) (s : Sm) : Sm :=
  match l with
  | none => putS o pg lo e 3 root s
  | some q => if goOn s.xs pg lo q = true then putS o pg lo e (q.2 - 1) (en s.xs pg q.1 q.2).f s else s
theorem putS_step (o pg : Int) (lo : Nat) (e : P.En) (v : Nat) (fr : Int) (s : Sm) (hlo : lo ≤ v) :
    putS o pg lo e v fr s = if goOn (bodyS o pg lo e (fr, v) s).xs pg lo (fr, v) = true then putS o pg lo e (v - 1) (en (bodyS o pg lo e (fr, v) s).xs pg fr v).f (bodyS o pg lo e (fr, v) s) else bodyS o pg lo e (fr, v) s := by
  cases v with
  | zero =>
    obtain rfl : lo = 0 := by omega
    rw [if_neg (by unfold goOn; simp)]
    rfl
  | succ v =>
    by_cases h : lo = v + 1
    · rw [if_neg (by unfold goOn; simp [h])]
      conv => lhs; unfold putS
      rw [if_pos h]
      unfold bodyS
      rw [if_pos h]
    · conv => lhs; unfold putS
      rw [if_neg h]
      have hb : bodyS o pg lo e (fr, v + 1) s = mkS s o pg fr (v + 1) := if_neg h
      rw [hb]
      rfl
theorem putC_next {o root pg : Int} {lo : Nat} {e : P.En} {s : Wy} {p : Int × Nat} (h : Nxt root pg lo s p) (hlo : lo ≤ 3) : putC o root pg lo e s.last s.sm = putC o root pg lo e (some p) (bodyS o pg lo e p s.sm) := by
  unfold Nxt at h
  cases hl : s.last with
  | none =>
    rw [hl] at h
    simp only at h
    subst h
    exact putS_step _ _ _ _ _ _ _ hlo
  | some q =>
    rw [hl] at h
    simp only at h
    obtain ⟨h1, rfl⟩ := h
    show (if _ then _ else _) = _
    rw [if_pos h1]
    have : lo < q.2 := by
      unfold goOn at h1
      simp only [Bool.and_eq_true, decide_eq_true_eq] at h1
      exact h1.1
    exact putS_step _ _ _ _ _ _ _ (by omega)
def cntO (k : Nat) : Option (Int × Nat) → Nat
  | none => k
  | some q => k + 20 * (4 - q.2)
theorem cntO_next {root pg : Int} {lo k : Nat} {s : Wy} {p : Int × Nat} (h : Nxt root pg lo s p) (h3 : ∀ q, s.last = some q → q.2 ≤ 3) : p.2 ≤ 3 ∧ cntO k s.last + 20 ≤ cntO k (some p) ∧ cntO k (some p) ≤ k + 80 := by
  unfold Nxt at h
  cases hl : s.last with
  | none =>
    rw [hl] at h
    simp only at h
    subst h
    exact ⟨Nat.le_refl _, Nat.le_refl _, by show k + 20 ≤ k + 80; omega⟩
  | some q =>
    have h3 := h3 q hl
    rw [hl] at h
    simp only at h
    obtain ⟨h1, rfl⟩ := h
    have h2 : lo < q.2 := by
      unfold goOn at h1
      simp only [Bool.and_eq_true, decide_eq_true_eq] at h1
      exact h1.1
    refine ⟨by show q.2 - 1 ≤ 3; omega, ?_, ?_⟩
    · show k + 20 * (4 - q.2) + 20 ≤ k + 20 * (4 - (q.2 - 1)); omega
    · show k + 20 * (4 - (q.2 - 1)) ≤ k + 80; omega

/-- What holds between two rounds. -/
structure PutI (u : Si) (w : World) (t b0 b1 : Nat) (o root pg : Int) (lo : Nat) (e : P.En) (k : Nat) (R : Sm) (s : Wy) (W : World) : Prop where
  x0 : W.heap[b0]? = some (.cells #[.pointer (some ⟨t, 0, none⟩)] 30 (0, 0))
  x1 : W.heap[b0 + 1]? = some (.cells #[.int .i64 lo] 3 (0, 0))
  x2 : W.heap[b0 + 2]? = some (.cells #[.bool e.p, .int .i64 e.r, .bool e.l, .int .i64 e.f] 95 (0, 0))
  y0 : W.heap[b1]? = some (.cells #[.pointer (some ⟨t, 0, none⟩)] 30 (0, 0))
  y1 : W.heap[b1 + 1]? = some (.cells #[.int .i64 pg] 3 (0, 0))
  y2 : W.heap[b1 + 2]? = some (.cells #[.int .i64 lo] 3 (0, 0))
  tb : IsT u W t 1 o root
  wo : Wo u W s.sm (cntO k s.last)
  le : ∀ q, s.last = some q → q.2 ≤ 3
  ch : Ch u w W
  co : putC o root pg lo e s.last s.sm = R
theorem PutI.keep {u : Si} {w : World} {t b0 b1 : Nat} {o root pg : Int} {lo : Nat} {e : P.En} {k : Nat} {R : Sm} {s : Wy} {A B : World} (h : PutI u w t b0 b1 o root pg lo e k R s A) {n : Nat} (b : Below n A B)
    (hn : (u.mp < n ∧ u.wb < n) ∧ (u.pp < n ∧ u.pb < n) ∧ t < n ∧ b0 + 2 < n ∧ b1 + 2 < n ∧ w.heap.size ≤ n) : PutI u w t b0 b1 o root pg lo e k R s B := by
  obtain ⟨n1, n2, n3, n4, n5, n6⟩ := hn
  exact ⟨(b.block _ (by omega)).trans h.x0, (b.block _ (by omega)).trans h.x1, (b.block _ n4).trans h.x2, (b.block _ (by omega)).trans h.y0, (b.block _ (by omega)).trans h.y1, (b.block _ n5).trans h.y2, (b.block _ n3).trans h.tb, h.wo.belowN b n1 n2, h.le, h.ch.below2 (b.mono n6), h.co⟩
theorem PutI.rd {u : Si} {w : World} {t b0 b1 : Nat} {o root pg : Int} {lo : Nat} {e : P.En} {k : Nat} {R : Sm} {s : Wy} {A : World} (h : PutI u w t b0 b1 o root pg lo e k R s A) : Rd u t b1 (b1 + 2) (b1 + 1) o root pg lo A s.sm :=
  ⟨P.cell_of h.y0 rfl, P.cell_of h.y2 rfl, P.cell_of h.y1 rfl, h.tb, _, h.wo⟩
theorem PutI.next {u : Si} {w : World} {t b0 b1 : Nat} {o root pg : Int} {lo : Nat} {e : P.En} {k : Nat} {R : Sm} {s : Wy} {A B : World} (h : PutI u w t b0 b1 o root pg lo e k R s A) (c : Ch u A B) {p : Int × Nat} {s' : Sm}
    (hW : Wo u B s' (cntO k (some p))) (hp : p.2 ≤ 3) (hco : putC o root pg lo e (some p) s' = R) : PutI u w t b0 b1 o root pg lo e k R ⟨some p, s'⟩ B :=
  ⟨h.wo.keep c h.x0 (by decide) (by decide) (by decide), h.wo.keep c h.x1 (by decide) (by decide) (by decide), h.wo.keep c h.x2 (by decide) (by decide) (by decide), h.wo.keep c h.y0 (by decide) (by decide) (by decide), h.wo.keep c h.y1 (by decide) (by decide) (by decide), h.wo.keep c h.y2 (by decide) (by decide) (by decide),
    h.tb.ch h.wo c, hW, fun q hq => by cases hq; exact hp, h.ch.trans c, hco⟩
section
variable {u : Si} {w : World} {t : Nat} {o root : Int} {s : Sm} {k : Nat}
theorem Wg.rk (h : Wo u w s k) {w' : World} (c : Ch u w w') : RkT 93 w w' := fun _ _ hq => h.keep c hq (by decide) (by decide) (by decide)
theorem Wg.ko (h : Wo u w s k) {w' : World} (c : Ch u w w') (n : Nat) : Ko n w w' := fun q ob _ hq ho => by
  obtain ⟨d, l, hm, -⟩ := h.mem
  obtain ⟨r, hr⟩ := h.pool.row
  refine (c.block q (Array.getElem?_eq_some_iff.1 hq).1 (fun e => ?_) (fun e => ?_) (fun e => ?_)).trans hq
  · rw [e, hm.head] at hq; injection hq with hq; subst hq; cases ho
  · rw [e, show w.heap[u.wb]? = _ from hm.row] at hq; injection hq with hq; subst hq; cases ho
  · rw [e, hr] at hq; injection hq with hq; subst hq; cases ho

set_option maxRecDepth 100000 in
set_option maxHeartbeats 4000000 in
theorem put_in (hT : IsT u w t 1 o root) (h : Wo u w s k) (hk : k + 200 ≤ bnd) (pg : Int) (lo : Nat) (hlo : lo ≤ 3) (ep : Bool) (er : Int) (el : Bool) (ef : Int) :
    CallsIn Fence.wide 3 Tryz.prog 55 #[.pointer (some ⟨t, 0, none⟩), .int .i64 pg, .int .i64 lo, .agg #[.bool ep, .int .i64 er, .bool el, .int .i64 ef]] w fun r w' => r = .returned (.int .i64 (putE s root pg lo ⟨ep, er, el, ef⟩)) ∧ Wo u w' (putT s o root pg lo ⟨ep, er, el, ef⟩) (k + 100) ∧ Ch u w w' := by
  have HW := hid h
  have HT := hid hT
  have HK := hid hk
  have HLO := hid hlo
  obtain ⟨n0, n1, n2⟩ := new3 w (.cells #[.pointer (some ⟨t, 0, none⟩)] 30) (.cells #[.int .i64 lo] 3) (.cells #[.bool ep, .int .i64 er, .bool el, .int .i64 ef] 95)
  have B3 : Below w.heap.size w (((w.alloc (.cells #[.pointer (some ⟨t, 0, none⟩)] 30)).alloc (.cells #[.int .i64 lo] 3)).alloc (.cells #[.bool ep, .int .i64 er, .bool el, .int .i64 ef] 95)) := ((below_alloc _ _).alloc (by simp) _).alloc (by simp; omega) _
  have HF := hid (putFault_at (hT.below B3) (h.below B3) pg lo hlo ⟨ep, er, el, ef⟩)
  have HB3 := hid B3
  have HN0 := hid n0
  have HN1 := hid n1
  have HN2 := hid n2
  have HY := hid (fun (g : putE s root pg lo ⟨ep, er, el, ef⟩ = 0) => (show putT s o root pg lo ⟨ep, er, el, ef⟩ = putS o pg lo ⟨ep, er, el, ef⟩ 3 root s from if_pos g))
  have HN := hid (fun (g : putE s root pg lo ⟨ep, er, el, ef⟩ ≠ 0) => (show putT s o root pg lo ⟨ep, er, el, ef⟩ = s from if_neg g))
  generalize putT s o root pg lo ⟨ep, er, el, ef⟩ = sp at *
  generalize putE s root pg lo ⟨ep, er, el, ef⟩ = ee at *
  unfold P.eV at HF
  simp only at HF
  clear hT h hk hlo B3 n0 n1 n2
  refine callsIn_of_wp_marks Tryz.func55 rfl trivial ?_ rfl
  simp only [Tryz.ntmps55, List.size_toArray, List.length_cons, List.length_nil, Nat.reduceAdd, Nat.reduceSub, Array.replicate_succ, Array.replicate_zero, List.push_toArray, List.append_toArray, List.nil_append, List.cons_append]
  gi_wp2_with fail
  refine ⟨trivial, (callsIn_wide.2 HF.out).mono ?_⟩
  rintro r w1 ⟨rfl, hB1⟩
  have HB1 := hid hB1
  have HX0 := hid (P.stay hB1 HN0.out)
  have HX1 := hid (P.stay hB1 HN1.out)
  have HX2 := hid (P.stay hB1 HN2.out)
  clear hB1
  by_cases hee : ee = 0
  · subst hee
    have HY' := hid (HY.out rfl)
    have c0 := P.cell_of (i := 0) HX0.out rfl
    have c1 := P.cell_of (i := 0) HX1.out rfl
    clear HY HN
    gi_wp2_with fail
    refine ⟨trivial, (way_in _ _ _ _ _).mono ?_⟩
    rintro r w' ⟨rfl, rfl⟩
    clear c0 c1
    gi_wp2
    have HZ3 : Hid ((((w1.alloc (.cells #[.pointer (some ⟨t, 0, none⟩)] 30)).alloc (.cells #[.int .i64 pg] 3)).alloc (.cells #[.int .i64 lo] 3)).heap.size = w1.heap.size + 3) := by simp [Hid]
    obtain ⟨m0, m1, m2⟩ := new3 w1 (.cells #[.pointer (some ⟨t, 0, none⟩)] 30) (.cells #[.int .i64 pg] 3) (.cells #[.int .i64 lo] 3)
    have C3 : Below w1.heap.size w1 (((w1.alloc (.cells #[.pointer (some ⟨t, 0, none⟩)] 30)).alloc (.cells #[.int .i64 pg] 3)).alloc (.cells #[.int .i64 lo] 3)) := ((below_alloc _ _).alloc (by simp) _).alloc (by simp; omega) _
    generalize hw0 : (((w1.alloc (.cells #[.pointer (some ⟨t, 0, none⟩)] 30)).alloc (.cells #[.int .i64 pg] 3)).alloc (.cells #[.int .i64 lo] 3)) = W0 at *
    clear hw0
    have hz3 := HZ3.out
    have hB01 : Below w.heap.size w w1 := HB3.out.trans (HB1.out.mono HB3.out.size)
    have hB0 : Below w.heap.size w W0 := hB01.trans (C3.mono hB01.size)
    have hl0 := lt_of_block HX2.out
    have hlt := HW.out.lt
    have hltt := HT.out.lt
    have hsz := hB0.size
    have hbd : (u.mp < W0.heap.size ∧ u.wb < W0.heap.size) ∧ (u.pp < W0.heap.size ∧ u.pb < W0.heap.size) ∧ t < W0.heap.size ∧ w.heap.size + 2 < W0.heap.size ∧ w1.heap.size + 2 < W0.heap.size ∧ w.heap.size ≤ W0.heap.size := by
      have : w1.heap.size ≤ W0.heap.size := C3.size
      have hl0' : w.heap.size + 1 + 1 < w1.heap.size := hl0
      omega
    have HBD := hid hbd
    have HI0 : Hid (PutI u w t w.heap.size w1.heap.size o root pg lo ⟨ep, er, el, ef⟩ k (putS o pg lo ⟨ep, er, el, ef⟩ 3 root s) ⟨none, s⟩ W0) :=
      ⟨P.stay C3 HX0.out, P.stay C3 HX1.out, P.stay C3 HX2.out, m0, m1, m2, HT.out.below hB0, HW.out.below hB0, fun q hq => (by cases hq), .of_below hB0, rfl⟩
    rw [← HY'.out] at HI0
    refine range_told (F := Fence.wide) (n := 3) rfl (by decide) (gf := 135) (lb := #[.pointer (some ⟨w1.heap.size, 0, none⟩), .pointer (some ⟨w1.heap.size + 2, 0, none⟩), .pointer (some ⟨w1.heap.size + 1, 0, none⟩)]) rfl trivial (enters_of Tryz.func135 (by kernel_rfl) rfl)
      (fun x : Xs => #[.agg (stX pg x)]) (fun _ => rfl) (AbT W0.heap.size 93) (RkT 93) (fun _ _ => .of_below) (fun _ _ _ _ h => h.other _ _) RkT.trans RkT.tw
      (PutI u w t w.heap.size w1.heap.size o root pg lo ⟨ep, er, el, ef⟩ k sp)
      (OkW root pg lo) (fun z x => ⟨some x.1, bodyS o pg lo ⟨ep, er, el, ef⟩ x.1 z.sm⟩) (FinW pg lo) ⟨none, s⟩ ?hI ?hIp HI0.out ?hit ?hround ?hdone
    case hI => exact fun z A B hz hb => hz.keep (n := W0.heap.size) (hb.below (Nat.le_refl _) (by have := hz.ch.size; have := hz.wo.lt; have := lt_of_block hz.y2; omega)) HBD.out
    case hIp => exact fun z A B l ob hz hb hl ho hw => hz.keep (hb.below hw) HBD.out
    case hit =>
      intro l J W hBW hJ hJI hY h0
      exact way1_in 2 (by decide) u t w1.heap.size (w1.heap.size + 2) (w1.heap.size + 1) o root pg lo HLO.out _ (bodyS o pg lo ⟨ep, er, el, ef⟩) ⟨none, s⟩ rfl (fun z A hz => hz.rd) l J W W0.heap.size hBW.size hJ hJI hY h0
    case hround =>
      rintro l z x W hz hok ⟨ob, hob, hoc⟩
      have hn := cntO_next (k := k) hok.1 hz.le
      have hco := (putC_next (e := ⟨ep, er, el, ef⟩) (o := o) hok.1 HLO.out).symm.trans hz.co
      have he := hok.2
      obtain ⟨p, e0⟩ := x
      obtain ⟨fr, v⟩ := p
      simp only at he hn hco
      have HE := hid he
      have HN3 := hid hn
      have HCO := hid hco
      have HZ := hid hz
      have HO : Hid (W0.heap.size + 1 < W.heap.size) := (Array.getElem?_eq_some_iff.1 hob).1
      obtain ⟨xp, xr, xl, xf⟩ := e0
      have HG := hid (heap_alloc_new W (.cells (stX pg ((fr, v), ⟨xp, xr, xl, xf⟩)) 97))
      have HBS := hid (fun (g : lo = v) => (show bodyS o pg lo ⟨ep, er, el, ef⟩ (fr, v) z.sm = lay z.sm (P.at' fr pg v) ⟨ep, er, el, ef⟩ from if_pos g))
      have HBM := hid (fun (g : ¬ lo = v) (g2 : xp = true) => (show bodyS o pg lo ⟨ep, er, el, ef⟩ (fr, v) z.sm = z.sm from (if_neg g).trans (if_pos (by rw [← he]; exact g2))))
      have HBH := hid (fun (g : ¬ lo = v) (g2 : ¬ xp = true) => (show bodyS o pg lo ⟨ep, er, el, ef⟩ (fr, v) z.sm = hangS z.sm o (P.at' fr pg v) none16 from (if_neg g).trans (if_neg (by rw [← he]; exact g2))))
      clear hn hco he hz hok hob hoc
      unfold stX at HG ⊢
      simp only at HG ⊢
      generalize bodyS o pg lo ⟨ep, er, el, ef⟩ (fr, v) z.sm = s' at *
      generalize P.at' fr pg v = a at *
      gi_wp2
      refine ⟨Ko.of_below (below_alloc W _), RkT.of_below (below_alloc W _), fun W2 hT2 => ?_⟩
      have hb2 : Below W0.heap.size W W2 := ((below_alloc W _).mono (by have := HO.out; omega)).trans (hT2.below (by omega))
      have hz2 := HZ.out.keep hb2 HBD.out
      have HZ2 := hid hz2
      have hg2 := (hT2.block W.heap.size (by have := HO.out; omega)).trans HG.out
      have HG2 := hid hg2
      have HLT := hid (And.intro hT2.size HO.out)
      obtain ⟨g0, g1, g2, g3, g4, g5, g6⟩ := seven hg2
      have k1 := P.cell_of (i := 0) hz2.x1 rfl
      have k0 := P.cell_of (i := 0) hz2.x0 rfl
      obtain ⟨e0, e1, e2, e3⟩ := P.four hz2.x2
      clear hT2 hb2 hz2 hg2
      by_cases hlv : lo = v
      · subst hlv
        have HS' := hid (HBS.out rfl)
        have HLA := hid (lay_at' HZ2.out.tb HZ2.out.wo (by have := HN3.out.2; have := HK.out; omega) a ⟨ep, er, el, ef⟩)
        unfold P.eV at HLA
        simp only at HLA
        rw [← HS'.out] at HLA
        clear HBS HBM HBH
        gi_wp2_with fail
        refine ⟨trivial, (CallsIn.inRound l (callsIn_wide.2 HLA.out)).mono ?_⟩
        rintro r w5 ⟨rfl, hW5, hC5⟩
        have HR5 : Hid (PutI u w t w.heap.size w1.heap.size o root pg lo ⟨ep, er, el, ef⟩ k sp ⟨some (fr, lo), s'⟩ w5) := HZ2.out.next hC5 (hW5.mono (by have := HN3.out.2.1; omega)) HN3.out.1 HCO.out
        have HX5 := hid (And.intro (HZ2.out.wo.ko hC5 W0.heap.size) (HZ2.out.wo.rk hC5))
        clear hW5 hC5
        gi_wp2
        exact ⟨HR5.out, HX5.out⟩
      · have hlv' : ((v : Int) == (lo : Int)) = false := by rw [beq_eq_false_iff_ne]; omega
        cases xp
        · have HS' := hid (HBH.out hlv (by decide))
          have HHA := hid (hang_none HZ2.out.tb HZ2.out.wo (by have := HN3.out.2; have := HK.out; omega) a)
          rw [← HS'.out] at HHA
          clear HBS HBM HBH hlv
          gi_wp2_with fail
          refine ⟨trivial, (CallsIn.inRound l (callsIn_wide.2 HHA.out)).mono ?_⟩
          rintro r w5 ⟨rfl, hW5, hC5⟩
          have HR5 : Hid (PutI u w t w.heap.size w1.heap.size o root pg lo ⟨ep, er, el, ef⟩ k sp ⟨some (fr, v), s'⟩ w5) := HZ2.out.next hC5 (hW5.mono (by have := HN3.out.2.1; omega)) HN3.out.1 HCO.out
          have HX5 := hid (And.intro (HZ2.out.wo.ko hC5 W0.heap.size) (HZ2.out.wo.rk hC5))
          clear hW5 hC5
          gi_wp2
          exact ⟨HR5.out, HX5.out⟩
        · have HS' := hid (HBM.out hlv rfl)
          have HR5 : Hid (PutI u w t w.heap.size w1.heap.size o root pg lo ⟨ep, er, el, ef⟩ k sp ⟨some (fr, v), s'⟩ W2) := HZ2.out.next (Ch.refl _ _) (by rw [HS'.out]; exact HZ2.out.wo.mono (by have := HN3.out.2.1; omega)) HN3.out.1 HCO.out
          clear HBS HBM HBH hlv
          gi_wp2
          exact ⟨HR5.out, Ko.refl _ _, RkT.refl _ _⟩
    case hdone =>
      rintro z W hfin hz hK
      obtain ⟨p, hp, hg⟩ := hfin
      have hsm : z.sm = sp := by
        have := hz.co
        rw [hp] at this
        rw [← this]
        show _ = (if _ then _ else _)
        rw [hg, if_neg (by decide)]
      have hcn : cntO k z.last ≤ k + 100 := by rw [hp]; show k + 20 * (4 - p.2) ≤ k + 100; omega
      have HW' : Hid (Wo u W sp (k + 100)) := by
        have := hz.wo.mono hcn
        rw [hsm] at this
        exact this
      have HCH := hid hz.ch
      have HKK := hid hK
      have HLL := hid (show w.heap.size ≤ W0.heap.size ∧ u.mp < W0.heap.size ∧ u.wb < W0.heap.size ∧ u.pp < W0.heap.size ∧ u.pb < W0.heap.size by have := HBD.out; omega)
      clear hK hsm hcn hz hp hg
      gi_wp2
      refine ⟨by simp, .inl ⟨_, _, rfl, run_takeDeferred HKK.out, ?_⟩⟩
      exact ⟨_, results_tmp rfl _ _ _, rfl, HW'.out.belowN ((Tw.put _ _ _).below (Nat.le_refl _)) ⟨HLL.out.2.1, HLL.out.2.2.1⟩ ⟨HLL.out.2.2.2.1, HLL.out.2.2.2.2⟩, HCH.out.below2 ((Tw.put _ _ _).below HLL.out.1)⟩
  · have hee' : (ee != 0) = true := by simpa using hee
    have HN' := hid (HN.out hee)
    clear HY HN hee
    gi_wp2
    exact ⟨_, results_tmp rfl _ _ _, rfl, by rw [HN'.out]; exact (HW.out.below (HB3.out.trans (HB1.out.mono HB3.out.size))).mono (by omega), .of_below (HB3.out.trans (HB1.out.mono HB3.out.size))⟩
set_option maxHeartbeats 400000 in
theorem map_at (hT : IsT u w t 1 o root) (h : Wo u w s k) (hk : k + 200 ≤ bnd) (pg f r : Int) :
    Calls Tryz.prog 21 #[.pointer (some ⟨t, 0, none⟩), .int .i64 pg, .int .i64 f, .int .i64 r] w fun x w' => x = .returned (.int .i64 (putE s root pg 0 ⟨true, r, false, f⟩)) ∧ Wo u w' (putT s o root pg 0 ⟨true, r, false, f⟩) (k + 100) ∧ Ch u w w' := by
  have HP := hid (callsIn_wide.1 (put_in hT h hk pg 0 (by decide) true r false f))
  generalize putE s root pg 0 ⟨true, r, false, f⟩ = e at *
  generalize putT s o root pg 0 ⟨true, r, false, f⟩ = s' at *
  clear hT h hk
  go_enter Tryz.func21, Tryz.ntmps21
  go_wp2_with fail
  refine HP.out.mono ?_
  rintro x w1 ⟨rfl, hW, hC⟩
  have HX := hid (And.intro hW hC)
  clear hW hC
  go_wp2
  go_ret
  exact ⟨rfl, HX.out⟩
set_option maxHeartbeats 400000 in
theorem large_at (hT : IsT u w t 1 o root) (h : Wo u w s k) (hk : k + 200 ≤ bnd) (pg f r : Int) :
    Calls Tryz.prog 22 #[.pointer (some ⟨t, 0, none⟩), .int .i64 pg, .int .i64 f, .int .i64 r] w fun x w' => x = .returned (.int .i64 (putE s root pg 1 ⟨true, r, true, f⟩)) ∧ Wo u w' (putT s o root pg 1 ⟨true, r, true, f⟩) (k + 100) ∧ Ch u w w' := by
  have HP := hid (callsIn_wide.1 (put_in hT h hk pg 1 (by decide) true r true f))
  generalize putE s root pg 1 ⟨true, r, true, f⟩ = e at *
  generalize putT s o root pg 1 ⟨true, r, true, f⟩ = s' at *
  clear hT h hk
  go_enter Tryz.func22, Tryz.ntmps22
  go_wp2_with fail
  refine HP.out.mono ?_
  rintro x w1 ⟨rfl, hW, hC⟩
  have HX := hid (And.intro hW hC)
  clear hW hC
  go_wp2
  go_ret
  exact ⟨rfl, HX.out⟩
end
end Go.Proofs.YtpfmmlbakbhklaaGreatDoor
