/- What way and end return: where a page's way ends. Conditions: the words and frames lie in memory; the tables are live. -/
import Derived.Test.YtpfmmlbakbhklaaGreatDoorN5
namespace Go.Proofs.YtpfmmlbakbhklaaGreatDoor
open Go.RowKit Go.Shelf
attribute [local go_sem] Oper.semAt_some

theorem oth7 (W : World) {m g : Nat} (hne : m ≠ g) (a b c d e f h : Value) :
    (((((((W.setCell ⟨g, 0, none⟩ a).setCell ⟨g, 1, none⟩ b).setCell ⟨g, 2, none⟩ c).setCell ⟨g, 3, none⟩ d).setCell ⟨g, 4, none⟩ e).setCell ⟨g, 5, none⟩ f).setCell ⟨g, 6, none⟩ h).heap[m]? = W.heap[m]? := by
  rw [Below.heap_setCell _ _ _ _ hne, Below.heap_setCell _ _ _ _ hne, Below.heap_setCell _ _ _ _ hne, Below.heap_setCell _ _ _ _ hne, Below.heap_setCell _ _ _ _ hne, Below.heap_setCell _ _ _ _ hne, Below.heap_setCell _ _ _ _ hne]
theorem new5 (w : World) (A B C D E : Obj) : (((((w.alloc A).alloc B).alloc C).alloc D).alloc E).heap[w.heap.size]? = some A ∧ (((((w.alloc A).alloc B).alloc C).alloc D).alloc E).heap[w.heap.size + 1]? = some B ∧ (((((w.alloc A).alloc B).alloc C).alloc D).alloc E).heap[w.heap.size + 2]? = some C ∧ (((((w.alloc A).alloc B).alloc C).alloc D).alloc E).heap[w.heap.size + 3]? = some D ∧ (((((w.alloc A).alloc B).alloc C).alloc D).alloc E).heap[w.heap.size + 4]? = some E := by
  have h := new3 w A B C
  have h2 := P.two_new ((w.alloc A).alloc B |>.alloc C) D E
  simp only [World.size_alloc] at h2
  exact ⟨P.hkeep (P.hkeep h.1 D) E, P.hkeep (P.hkeep h.2.1 D) E, P.hkeep (P.hkeep h.2.2 D) E, h2.1, h2.2⟩
theorem b5 (w : World) (A B C D E : Obj) : Below w.heap.size w (((((w.alloc A).alloc B).alloc C).alloc D).alloc E) :=
  ((((below_alloc w A).alloc (by simp) B).alloc (by simp; omega) C).alloc (by simp; omega) D).alloc (by simp; omega) E

set_option maxHeartbeats 1000000 in
theorem way_in (n : Nat) (t : Nat) (pg : Int) (lo : Nat) (w : World) :
    CallsIn Fence.wide n Tryz.prog 96 #[.pointer (some ⟨t, 0, none⟩), .int .i64 pg, .int .i64 lo] w fun e w' =>
      e = .returned (.func (.func 135) #[] #[.pointer (some ⟨w.heap.size, 0, none⟩), .pointer (some ⟨w.heap.size + 2, 0, none⟩), .pointer (some ⟨w.heap.size + 1, 0, none⟩)]) ∧
      w' = ((w.alloc (.cells #[.pointer (some ⟨t, 0, none⟩)] 30)).alloc (.cells #[.int .i64 pg] 3)).alloc (.cells #[.int .i64 lo] 3) := by
  refine callsIn_of_wp Tryz.func96 rfl trivial ?_ rfl
  simp only [Tryz.ntmps96, List.size_toArray, List.length_cons, List.length_nil, Nat.reduceAdd, Nat.reduceSub, Array.replicate_succ, Array.replicate_zero, List.push_toArray, List.append_toArray, List.nil_append, List.cons_append]
  gi_wp2
  go_ret
  exact ⟨rfl, rfl⟩

abbrev zeC : Array Value := #[.int .i64 0, .int .i64 0, .int .i64 0, .bool false, .int .i64 0, .bool false, .int .i64 0]
/-- The stop at a table. -/
def atC (xs : List Int) (pg : Int) (p : Int × Nat) : Array Value := stX pg (p, en xs pg p.1 p.2)
def lastC (xs : List Int) (pg : Int) (l : Option (Int × Nat)) : Array Value := match l with | none => zeC | some p => atC xs pg p
theorem lastC_seven (xs : List Int) (pg : Int) (l : Option (Int × Nat)) : ∃ a b c d e f g, lastC xs pg l = #[a, b, c, d, e, f, g] := by
  cases l
  · exact ⟨_, _, _, _, _, _, _, rfl⟩
  · exact ⟨_, _, _, _, _, _, _, rfl⟩
/-- Where the way that goes on from here ends. -/
def contF (xs : List Int) (root pg : Int) (lo : Nat) (l : Option (Int × Nat)) : Int × Nat :=
  match l with
  | none => endF xs pg lo 3 root
  | some q => if goOn xs pg lo q = true then endF xs pg lo (q.2 - 1) (en xs pg q.1 q.2).f else q
theorem endF_step (xs : List Int) (pg : Int) (lo : Nat) (v : Nat) (fr : Int) : endF xs pg lo v fr = if goOn xs pg lo (fr, v) = true then endF xs pg lo (v - 1) (en xs pg fr v).f else (fr, v) := by
  cases v with
  | zero => unfold goOn endF; simp
  | succ v => conv => lhs; unfold endF
              rfl
theorem contF_next {xs : List Int} {root pg : Int} {lo : Nat} {s : Wy} (hs : s.sm.xs = xs) {p : Int × Nat} (h : Nxt root pg lo s p) : contF xs root pg lo s.last = contF xs root pg lo (some p) := by
  subst hs
  unfold Nxt at h
  cases hl : s.last with
  | none =>
    rw [hl] at h
    simp only at h
    subst h
    exact endF_step _ _ _ _ _
  | some q =>
    rw [hl] at h
    simp only at h
    obtain ⟨h1, rfl⟩ := h
    show (if _ then _ else _) = _
    rw [if_pos h1]
    exact endF_step _ _ _ _ _

set_option maxRecDepth 100000 in
set_option maxHeartbeats 4000000 in
theorem end_in {u : Si} {w : World} {t : Nat} {o root : Int} {s : Sm} {k : Nat} (hT : IsT u w t 1 o root) (h : Wo u w s k) (pg : Int) (lo : Nat) (hlo : lo ≤ 3) :
    CallsIn Fence.wide 3 Tryz.prog 84 #[.pointer (some ⟨t, 0, none⟩), .int .i64 pg, .int .i64 lo] w fun e w' => e = .returned (.agg (atC s.xs pg (endF s.xs pg lo 3 root))) ∧ Below w.heap.size w w' := by
  have HT := hid hT
  have HW := hid h
  have HLO := hid hlo
  generalize hEF : endF s.xs pg lo 3 root = EF
  have HEF := hid hEF
  clear hT h hlo hEF
  refine callsIn_of_wp_marks Tryz.func84 rfl trivial ?_ rfl
  simp only [Tryz.ntmps84, List.size_toArray, List.length_cons, List.length_nil, Nat.reduceAdd, Nat.reduceSub, Array.replicate_succ, Array.replicate_zero, List.push_toArray, List.append_toArray, List.nil_append, List.cons_append]
  gi_wp2_with fail
  refine ⟨trivial, (way_in _ _ _ _ _).mono ?_⟩
  rintro e w' ⟨rfl, rfl⟩
  gi_wp2
  obtain ⟨n0, n1, n2, n3, n4⟩ := new5 w (.cells zeC 97) (.cells zeC 97) (.cells #[.pointer (some ⟨t, 0, none⟩)] 30) (.cells #[.int .i64 pg] 3) (.cells #[.int .i64 lo] 3)
  have B0 := b5 w (.cells zeC 97) (.cells zeC 97) (.cells #[.pointer (some ⟨t, 0, none⟩)] 30) (.cells #[.int .i64 pg] 3) (.cells #[.int .i64 lo] 3)
  have Z0 : (((((w.alloc (.cells zeC 97)).alloc (.cells zeC 97)).alloc (.cells #[.pointer (some ⟨t, 0, none⟩)] 30)).alloc (.cells #[.int .i64 pg] 3)).alloc (.cells #[.int .i64 lo] 3)).heap.size = w.heap.size + 5 := by simp
  generalize hw0 : (((((w.alloc (.cells zeC 97)).alloc (.cells zeC 97)).alloc (.cells #[.pointer (some ⟨t, 0, none⟩)] 30)).alloc (.cells #[.int .i64 pg] 3)).alloc (.cells #[.int .i64 lo] 3)) = W0 at *
  clear hw0
  refine range_told (F := Fence.wide) (n := 3) rfl (by decide) (gf := 135) (lb := #[.pointer (some ⟨w.heap.size + 2, 0, none⟩), .pointer (some ⟨w.heap.size + 4, 0, none⟩), .pointer (some ⟨w.heap.size + 3, 0, none⟩)]) rfl trivial (enters_of Tryz.func135 (by kernel_rfl) rfl)
    (fun x : Xs => #[.agg (stX pg x)]) (fun _ => rfl) (AbT (w.heap.size + 5) 93) (RkT 93) (fun _ _ => .of_below) (fun _ _ _ _ h => h.other _ _) RkT.trans RkT.tw
    (fun (z : Wy) W => z.sm = s ∧ Below w.heap.size w W ∧ W.heap[w.heap.size]? = some (.cells zeC 97 (0, 0)) ∧ W.heap[w.heap.size + 1]? = some (.cells (lastC s.xs pg z.last) 97 (0, 0)) ∧ (W.heap[w.heap.size + 2]? = some (.cells #[.pointer (some ⟨t, 0, none⟩)] 30 (0, 0)) ∧ W.heap[w.heap.size + 3]? = some (.cells #[.int .i64 pg] 3 (0, 0)) ∧ W.heap[w.heap.size + 4]? = some (.cells #[.int .i64 lo] 3 (0, 0))) ∧ contF s.xs root pg lo z.last = EF)
    (OkW root pg lo) (fun z x => ⟨some x.1, z.sm⟩) (FinW pg lo) ⟨none, s⟩ ?hI ?hIp ?h0 ?hit ?hround ?hdone
  case hI =>
    rintro z A B ⟨a, b, c, d, ⟨e1, e2, e3⟩, f⟩ hb
    exact ⟨a, b.trans (hb.below (by omega) b.size), hb.low c (by omega), hb.low d (by omega), ⟨hb.low e1 (by omega), hb.low e2 (by omega), hb.low e3 (by omega)⟩, f⟩
  case hIp =>
    rintro z A B l ob ⟨a, b, c, d, ⟨e1, e2, e3⟩, f⟩ hb hl ho hw
    exact ⟨a, b.trans (hb.below (by omega)), hb.cells hl ho c, hb.cells hl ho d, ⟨hb.cells hl ho e1, hb.cells hl ho e2, hb.cells hl ho e3⟩, f⟩
  case h0 => exact ⟨rfl, B0, n0, n1, ⟨n2, n3, n4⟩, HEF.out⟩
  case hit =>
    intro l J W hBW hJ hJI hY h0
    refine way1_in 2 (by decide) u t (w.heap.size + 2) (w.heap.size + 4) (w.heap.size + 3) o root pg lo HLO.out
      (fun (z : Wy) W => z.sm = s ∧ Below w.heap.size w W ∧ W.heap[w.heap.size]? = some (.cells zeC 97 (0, 0)) ∧ W.heap[w.heap.size + 1]? = some (.cells (lastC s.xs pg z.last) 97 (0, 0)) ∧ (W.heap[w.heap.size + 2]? = some (.cells #[.pointer (some ⟨t, 0, none⟩)] 30 (0, 0)) ∧ W.heap[w.heap.size + 3]? = some (.cells #[.int .i64 pg] 3 (0, 0)) ∧ W.heap[w.heap.size + 4]? = some (.cells #[.int .i64 lo] 3 (0, 0))) ∧ contF s.xs root pg lo z.last = EF)
      (fun _ m => m) ⟨none, s⟩ rfl ?_ l J W (w.heap.size + 5) (by have := hBW.size; omega) hJ hJI hY h0
    rintro z A ⟨rfl, b, c, d, ⟨e1, e2, e3⟩, f⟩
    exact ⟨P.cell_of e1 rfl, P.cell_of e3 rfl, P.cell_of e2 rfl, HT.out.below b, _, HW.out.below b⟩
  case hround =>
    rintro l z x W ⟨a, b, c, d, ⟨e1, e2, e3⟩, f⟩ hok ⟨ob, hob, hoc⟩
    subst a
    have hx : stX pg x = atC z.sm.xs pg x.1 := by
      obtain ⟨p, e⟩ := x
      have := hok.2
      simp only at this
      subst this
      rfl
    have hcont := contF_next rfl hok.1
    have HX : Hid (atC z.sm.xs pg x.1 = stX pg x) := hx.symm
    have HC := hid (hcont.symm.trans f)
    have HB := hid b
    have HZ := hid c
    have HE := hid (And.intro e1 (And.intro e2 e3))
    have HL : Hid (w.heap.size + 5 + 1 < W.heap.size) := by rw [← Z0]; exact (Array.getElem?_eq_some_iff.1 hob).1
    have HO := hid (And.intro hob hoc)
    have HD := hid d
    clear hx hcont b c d e1 e2 e3 f hok hob hoc
    obtain ⟨p, e⟩ := x
    obtain ⟨ep, er, el, ef⟩ := e
    have HN := hid (heap_alloc_new W (.cells (stX pg (p, ⟨ep, er, el, ef⟩)) 97))
    unfold stX at HN HX ⊢
    simp only at HN HX ⊢
    generalize P.at' p.1 pg p.2 = a at *
    gi_wp2
    refine ⟨Ko.of_below (below_alloc W _), RkT.of_below (below_alloc W _), fun W2 hT2 => ?_⟩
    have HG := hid ((hT2.block W.heap.size (by have := HL.out; omega)).trans HN.out)
    have HM := hid ((hT2.block (w.heap.size + 1) (by omega)).trans (P.hkeep HD.out _))
    have HB2 := hid ((HB.out.alloc HB.out.size _).trans (hT2.below (n := w.heap.size) (by omega)))
    have hZ2 : ∀ q c T, q < W.heap.size → q ≠ w.heap.size + 5 + 1 → W.heap[q]? = some (.cells c T (0, 0)) → W2.heap[q]? = some (.cells c T (0, 0)) := fun q c T hq hne h => (hT2.block q hne).trans (P.hkeep h _)
    have HZ2 := hid hZ2
    clear hT2 hZ2
    obtain ⟨g0, g1, g2, g3, g4, g5, g6⟩ := seven HG.out
    obtain ⟨l0, l1, l2, l3, l4, l5, l6, hl7⟩ := lastC_seven z.sm.xs pg z.last
    have HM7 := HM.out
    rw [hl7] at HM7
    have HM7' := hid HM7
    obtain ⟨x0, x1, x2, x3, x4, x5, x6⟩ := seven HM7
    obtain ⟨y0, y1, y2, y3, y4, y5, y6⟩ := free7 HM7
    clear HM7 hl7
    gi_wp2
    have hq := put7 HM7'.out (.int .i64 p.1) (.int .i64 p.2) (.int .i64 a) (.bool ep) (.int .i64 er) (.bool el) (.int .i64 ef)
    rw [show (#[Value.int .i64 p.1, Value.int .i64 (p.2 : Int), Value.int .i64 a, Value.bool ep, Value.int .i64 er, Value.bool el, Value.int .i64 ef] : Array Value) = atC z.sm.xs pg p from HX.out.symm] at hq
    have hoth : ∀ q c T, q < W.heap.size → q ≠ w.heap.size + 5 + 1 → q ≠ w.heap.size + 1 → W.heap[q]? = some (.cells c T (0, 0)) → (((((((W2.setCell ⟨w.heap.size + 1, 0, none⟩ (.int .i64 p.1)).setCell ⟨w.heap.size + 1, 1, none⟩ (.int .i64 p.2)).setCell ⟨w.heap.size + 1, 2, none⟩ (.int .i64 a)).setCell ⟨w.heap.size + 1, 3, none⟩ (.bool ep)).setCell ⟨w.heap.size + 1, 4, none⟩ (.int .i64 er)).setCell ⟨w.heap.size + 1, 5, none⟩ (.bool el)).setCell ⟨w.heap.size + 1, 6, none⟩ (.int .i64 ef)).heap[q]? = some (.cells c T (0, 0)) := fun q c T a1 a2 a3 h => by
      rw [oth7 _ a3]
      exact HZ2.out q c T a1 a2 h
    have hl := HL.out
    exact ⟨⟨rfl, bput7 HB2.out (by omega) _ _ _ _ _ _ _, hoth _ _ _ (by omega) (by omega) (by omega) HZ.out, hq, ⟨hoth _ _ _ (by omega) (by omega) (by omega) HE.out.1, hoth _ _ _ (by omega) (by omega) (by omega) HE.out.2.1, hoth _ _ _ (by omega) (by omega) (by omega) HE.out.2.2⟩, HC.out⟩,
      fun q ob h1 h2 h3 => by
        rw [oth7 _ (show q ≠ w.heap.size + 1 from fun e => by rw [e, HM7'.out] at h2; injection h2 with h2; subst h2; cases h3)]; exact h2,
      fun q cc h2 => by
        rw [oth7 _ (show q ≠ w.heap.size + 1 from fun e => by rw [e, HM7'.out] at h2; injection h2 with h2; injection h2 with _ h2; cases h2)]; exact h2⟩
  case hdone =>
    rintro z W hfin ⟨a, b, c, d, -, f⟩ hK
    obtain ⟨p, hp, hg⟩ := hfin
    rw [a] at hg
    have hend : p = EF := by
      rw [← f, hp]
      show _ = (if _ then _ else _)
      rw [hg, if_neg (by decide)]
    subst hend
    rw [hp] at d
    have HE : Hid (∃ e, atC s.xs pg p = stC p.1 p.2 (P.at' p.1 pg p.2) e) := ⟨_, rfl⟩
    obtain ⟨⟨ep, er, el, ef⟩, he⟩ := HE.out
    have HA := hid he
    have d' : W.heap[w.heap.size + 1]? = some (.cells (atC s.xs pg p) 97 (0, 0)) := d
    rw [he] at d'
    generalize P.at' p.1 pg p.2 = aa at *
    have HD := hid d'
    have HZ := hid c
    have HB := hid b
    obtain ⟨g0, g1, g2, g3, g4, g5, g6⟩ := seven d'
    obtain ⟨x0, x1, x2, x3, x4, x5, x6⟩ := seven c
    obtain ⟨y0, y1, y2, y3, y4, y5, y6⟩ := free7 c
    have hzz : w.heap.size + 1 < W.heap.size := lt_of_block d'
    have hK5 : W.heap[w.heap.size + 5]? = some (.deferred (some [])) := by rw [← Z0]; exact hK
    have HK := hid hK5
    clear a b c d d' f hp hg HE he hK hK5
    gi_wp2
    have hK' := (oth7 W (m := w.heap.size + 5) (g := w.heap.size) (by omega) (.int .i64 p.1) (.int .i64 p.2) (.int .i64 aa) (.bool ep) (.int .i64 er) (.bool el) (.int .i64 ef)).trans HK.out
    refine ⟨by simp, .inl ⟨_, _, rfl, run_takeDeferred hK', ?_⟩⟩
    have hr := put7 HZ.out (.int .i64 p.1) (.int .i64 p.2) (.int .i64 aa) (.bool ep) (.int .i64 er) (.bool el) (.int .i64 ef)
    have hb := bput7 HB.out (Nat.le_refl _) (.int .i64 p.1) (.int .i64 p.2) (.int .i64 aa) (.bool ep) (.int .i64 er) (.bool el) (.int .i64 ef)
    refine ⟨_, results_cell_row rfl _ _ w.heap.size 97 _ (0, 0) _ rfl ((World.putObj_heap_other (by omega)).trans hr) Tryz.underlying97 rfl size97, ?_, hb.trans ((Tw.put _ _ _).below (by omega))⟩
    rw [HA.out]
theorem tend_at {u : Si} {w : World} {t : Nat} {o root : Int} {s : Sm} {k : Nat} (hT : IsT u w t 1 o root) (h : Wo u w s k) (pg : Int) (lo : Nat) (hlo : lo ≤ 3) :
    Calls Tryz.prog 84 #[.pointer (some ⟨t, 0, none⟩), .int .i64 pg, .int .i64 lo] w fun e w' => e = .returned (.agg (atC s.xs pg (endF s.xs pg lo 3 root))) ∧ Below w.heap.size w w' :=
  callsIn_wide.1 (end_in hT h pg lo hlo)
end Go.Proofs.YtpfmmlbakbhklaaGreatDoor
