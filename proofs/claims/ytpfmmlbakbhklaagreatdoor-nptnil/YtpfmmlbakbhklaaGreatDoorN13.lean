/- What slices.Collect of a way returns: its stops, in a row of its own. Conditions: the words and frames lie in memory; the tables are live. -/
import Derived.Test.YtpfmmlbakbhklaaGreatDoorN12
import Derived.Maps.AppendAt
namespace Go.Proofs.YtpfmmlbakbhklaaGreatDoor
open Go.RowKit Go.Shelf
attribute [local go_sem] Oper.semAt_some

/-- What is to come of a way. -/
def wayC (xs : List Int) (root pg : Int) (lo : Nat) (l : Option (Int × Nat)) : List (Int × Nat) :=
  match l with
  | none => wayF xs pg lo 3 root
  | some q => if goOn xs pg lo q = true then wayF xs pg lo (q.2 - 1) (en xs pg q.1 q.2).f else []
theorem wayF_step (xs : List Int) (pg : Int) (lo : Nat) (v : Nat) (fr : Int) : wayF xs pg lo v fr = (fr, v) :: (if goOn xs pg lo (fr, v) = true then wayF xs pg lo (v - 1) (en xs pg fr v).f else []) := by
  cases v with
  | zero => unfold goOn wayF; simp
  | succ v => conv => lhs; unfold wayF
              rfl
theorem wayC_next {xs : List Int} {root pg : Int} {lo : Nat} {s : Wy} (hs : s.sm.xs = xs) {p : Int × Nat} (h : Nxt root pg lo s p) : wayC xs root pg lo s.last = p :: wayC xs root pg lo (some p) := by
  subst hs
  unfold Nxt at h
  cases hl : s.last with
  | none =>
    rw [hl] at h
    simp only at h
    subst h
    exact wayF_step _ _ _ _ _
  | some q =>
    rw [hl] at h
    simp only at h
    obtain ⟨h1, rfl⟩ := h
    show (if _ then _ else _) = _
    rw [if_pos h1]
    exact wayF_step _ _ _ _ _
theorem wayF_le (xs : List Int) (pg : Int) (lo : Nat) : ∀ (v : Nat) (fr : Int), (wayF xs pg lo v fr).length ≤ v + 1
  | 0, fr => Nat.le_refl _
  | v + 1, fr => by
    unfold wayF
    split
    · have := wayF_le xs pg lo v (en xs pg fr (v + 1)).f
      simp only [List.length_cons]; omega
    · simp
/-- The stops' cells, one behind the other. -/
def stL (xs : List Int) (pg : Int) (l : List (Int × Nat)) : List Value := l.flatMap fun p => (atC xs pg p).toList
theorem stL_app (xs : List Int) (pg : Int) (l : List (Int × Nat)) (p : Int × Nat) : stL xs pg (l ++ [p]) = stL xs pg l ++ (atC xs pg p).toList := by simp [stL]
theorem stL_at (xs : List Int) (pg : Int) : ∀ (l : List (Int × Nat)) (i : Nat), i < l.length → (stL xs pg l)[i * 7]? = some (.int .i64 (l.getD i (0, 0)).1) ∧ (stL xs pg l)[i * 7 + 1]? = some (.int .i64 ((l.getD i (0, 0)).2 : Nat)) ∧ (stL xs pg l)[i * 7 + 2]? = some (.int .i64 (P.at' (l.getD i (0, 0)).1 pg (l.getD i (0, 0)).2))
  | [], i, h => by simp at h
  | p :: l, 0, _ => ⟨rfl, rfl, rfl⟩
  | p :: l, i + 1, h => by
    have ih := stL_at xs pg l i (by simpa using h)
    have e : stL xs pg (p :: l) = (atC xs pg p).toList ++ stL xs pg l := rfl
    have h7 : (atC xs pg p).toList.length = 7 := rfl
    rw [e, show (i + 1) * 7 = 7 + i * 7 by omega]
    refine ⟨?_, ?_, ?_⟩
    · rw [List.getElem?_append_right (by omega), h7, show 7 + i * 7 - 7 = i * 7 by omega]; exact ih.1
    · rw [List.getElem?_append_right (by omega), h7, show 7 + i * 7 + 1 - 7 = i * 7 + 1 by omega]; exact ih.2.1
    · rw [List.getElem?_append_right (by omega), h7, show 7 + i * 7 + 2 - 7 = i * 7 + 2 by omega]; exact ih.2.2
theorem info97 : (Tryz.prog.info? 97).map (fun i => (i.zero, i.size, i.bytes)) = some (some (.agg zeC), 7, 56) := by kernel_rfl
theorem own_ab {A B : World} {base n e : Nat} {size : Nat} {v : Value} {k : Nat} {xs : List Value} (h : A.ownsRow base e size v k xs) (hb : ∀ (g : Nat) (c : Array Value), A.heap[g]? = some (.cells c e (0, 0)) → B.heap[g]? = some (.cells c e (0, 0))) (_ : n = n) : B.ownsRow base e size v k xs :=
  ⟨h.1, h.2.imp id fun ⟨g, cap, cur, a, b, c, d⟩ => ⟨g, cap, cur, a, b, hb g cur c, d⟩⟩
theorem cells7_new (w : World) (a b c d e f h : Value) (t : TypeId) : ∀ j u, [a, b, c, d, e, f, h][j]? = some u → (w.alloc (.cells #[a, b, c, d, e, f, h] t)).cell? ((⟨w.heap.size, 0, none⟩ : Addr).add j) = some u := fun j u hj => by
  rw [Addr.add_lit, Nat.zero_add]
  exact P.cell_of (heap_alloc_new w _) (by simpa using hj)

/-- Behind an append onto a row of one's own in a box. -/
theorem app_all {W w1 : World} {n B : Nat} {tb e : TypeId} {size : Nat} {v v' : Value} {k m : Nat} {xs ys : List Value} {tmp : Obj}
    (hv : Boxed W B tb v) (hte : tb ≠ e) (hrow : W.ownsRow n e size v k xs)
    (hown' : w1.ownsRow n e size v' m ys) (hgrow : (W.alloc tmp).grownBy w1 v.ownBlock) :
    Boxed w1 B tb v ∧ Boxed (w1.setCell ⟨B, 0, none⟩ v') B tb v' ∧ (w1.setCell ⟨B, 0, none⟩ v').ownsRow n e size v' m ys ∧
      (W.os = w1.os ∧ W.tape = w1.tape ∧ W.output = w1.output ∧ W.heap.size ≤ w1.heap.size) ∧
      (∀ (q : Nat) (ob : Obj), W.heap[q]? = some ob → (∀ c, ob ≠ .cells c tb (0, 0)) → (∀ c, ob ≠ .cells c e (0, 0)) → (w1.setCell ⟨B, 0, none⟩ v').heap[q]? = some ob) ∧
      (∀ q, q < W.heap.size → q ≠ B → q < n → (w1.setCell ⟨B, 0, none⟩ v').heap[q]? = W.heap[q]?) := by
  have hv1 : Boxed w1 B tb v := (hv.alloc tmp).kept hgrow (hv.not_row hte hrow)
  have hsz := hgrow.size
  simp at hsz
  have hrb : ∀ q, some q = v.ownBlock → n ≤ q ∧ ∃ c, W.heap[q]? = some (.cells c e (0, 0)) := fun q hq => by
    rcases hrow.2 with ⟨rfl, _⟩ | ⟨g, cap, cur, rfl, hb, hg, _⟩
    · simp [Value.ownBlock] at hq
    · obtain rfl : q = g := by simpa [Value.ownBlock] using hq
      exact ⟨hb, cur, hg⟩
  refine ⟨hv1, hv1.set v', hown'.kept (grownBy_setCell' w1 B v') (.inr (hv1.not_row hte hown').symm), ⟨hgrow.os.symm, hgrow.tape.symm, hgrow.output.symm, by omega⟩, fun q ob hq h1 h2 => ?_, fun q hq hB hn => ?_⟩
  · have hqB : q ≠ B := fun e' => by subst e'; rw [show W.heap[q]? = _ from hv] at hq; injection hq with hq; exact h1 _ hq.symm
    refine (Below.heap_setCell w1 ⟨B, 0, none⟩ v' q hqB).trans ((hgrow.block q ?_ fun e' => ?_).trans (P.hkeep hq tmp))
    · have := (Array.getElem?_eq_some_iff.1 hq).1; simp; omega
    · obtain ⟨-, c, hc⟩ := hrb q e'
      rw [hq] at hc; injection hc with hc; exact h2 c hc
  · refine (Below.heap_setCell w1 ⟨B, 0, none⟩ v' q hB).trans ((hgrow.block q (by simp; omega) fun e' => ?_).trans (Below.heap_alloc W tmp q hq))
    have := (hrb q e').1
    omega

/-- What holds between two rounds. -/
structure ColI (u : Si) (w : World) (t B b1 : Nat) (o root pg : Int) (lo : Nat) (s : Sm) (k n₀ : Nat) (z : Wy) (W : World) : Prop where
  y0 : W.heap[b1]? = some (.cells #[.pointer (some ⟨t, 0, none⟩)] 30 (0, 0))
  y1 : W.heap[b1 + 1]? = some (.cells #[.int .i64 pg] 3 (0, 0))
  y2 : W.heap[b1 + 2]? = some (.cells #[.int .i64 lo] 3 (0, 0))
  tb : IsT u W t 1 o root
  wo : Wo u W s k
  bw : Below w.heap.size w W
  sm : z.sm = s
  row : ∃ l v, Boxed W B 165 v ∧ W.ownsRow n₀ 97 7 v l.length (stL s.xs pg l) ∧ l ++ wayC s.xs root pg lo z.last = wayF s.xs pg lo 3 root
theorem ColI.keep {u : Si} {w : World} {t B b1 : Nat} {o root pg : Int} {lo : Nat} {s : Sm} {k n₀ : Nat} {z : Wy} {X Y : World} (h : ColI u w t B b1 o root pg lo s k n₀ z X) {n : Nat} (b : Below n X Y) (hr : ∀ (g : Nat) (c : Array Value), X.heap[g]? = some (.cells c 97 (0, 0)) → Y.heap[g]? = some (.cells c 97 (0, 0)))
    (hn : (u.mp < n ∧ u.wb < n) ∧ (u.pp < n ∧ u.pb < n) ∧ t < n ∧ B < n ∧ b1 + 2 < n ∧ w.heap.size ≤ n) : ColI u w t B b1 o root pg lo s k n₀ z Y := by
  obtain ⟨n1, n2, n3, n4, n5, n6⟩ := hn
  obtain ⟨l, v, a, c, d⟩ := h.row
  exact ⟨(b.block _ (by omega)).trans h.y0, (b.block _ (by omega)).trans h.y1, (b.block _ n5).trans h.y2, (b.block _ n3).trans h.tb, h.wo.belowN b n1 n2, h.bw.trans (b.mono n6), h.sm, l, v, (b.block _ n4).trans a, own_ab (n := 0) c hr rfl, d⟩
theorem ColI.rd {u : Si} {w : World} {t B b1 : Nat} {o root pg : Int} {lo : Nat} {s : Sm} {k n₀ : Nat} {z : Wy} {X : World} (h : ColI u w t B b1 o root pg lo s k n₀ z X) : Rd u t b1 (b1 + 2) (b1 + 1) o root pg lo X z.sm :=
  ⟨P.cell_of h.y0 rfl, P.cell_of h.y2 rfl, P.cell_of h.y1 rfl, h.tb, k, by rw [h.sm]; exact h.wo⟩

section
variable {u : Si} {w : World} {t : Nat} {o root : Int} {s : Sm} {k : Nat}
set_option maxRecDepth 100000 in
set_option maxHeartbeats 4000000 in
theorem collect_in (hT : IsT u w t 1 o root) (h : Wo u w s k) (pg : Int) (lo b1 : Nat) (hlo : lo ≤ 3) (hy0 : w.heap[b1]? = some (.cells #[.pointer (some ⟨t, 0, none⟩)] 30 (0, 0))) (hy1 : w.heap[b1 + 1]? = some (.cells #[.int .i64 pg] 3 (0, 0))) (hy2 : w.heap[b1 + 2]? = some (.cells #[.int .i64 lo] 3 (0, 0))) :
    CallsIn Fence.wide 3 Tryz.prog 142 #[.slice none 0 0, .func (.func 135) #[] #[.pointer (some ⟨b1, 0, none⟩), .pointer (some ⟨b1 + 2, 0, none⟩), .pointer (some ⟨b1 + 1, 0, none⟩)]] w fun r w' => (∃ v, r = .returned v ∧ w'.ownsRow w.heap.size 97 7 v (wayF s.xs pg lo 3 root).length (stL s.xs pg (wayF s.xs pg lo 3 root))) ∧ Below w.heap.size w w' := by
  have HW := hid h
  have HT := hid hT
  have HLO := hid hlo
  have hB := below_alloc w (.cells #[.slice none 0 0] 165)
  have HB := hid hB
  have hlt := h.lt
  have hbl := lt_of_block hy2
  have htt := hT.lt
  have HBD : Hid ((u.mp < w.heap.size + 1 ∧ u.wb < w.heap.size + 1) ∧ (u.pp < w.heap.size + 1 ∧ u.pb < w.heap.size + 1) ∧ t < w.heap.size + 1 ∧ w.heap.size < w.heap.size + 1 ∧ b1 + 2 < w.heap.size + 1 ∧ w.heap.size ≤ w.heap.size + 1) := by
    show _ ∧ _
    omega
  have HI0 : Hid (ColI u w t w.heap.size b1 o root pg lo s k (w.heap.size + 1) ⟨none, s⟩ (w.alloc (.cells #[.slice none 0 0] 165))) :=
    ⟨P.stay hB hy0, P.stay hB hy1, P.stay hB hy2, hT.below hB, h.below hB, hB, rfl, [], _, heap_alloc_new w _, World.ownsRow_nil _ _ _ _, rfl⟩
  have hwl := wayF_le s.xs pg lo 3 root
  have HWL := hid hwl
  obtain ⟨i0, hi, hz0, hz1, hz2⟩ := info_parts info97
  clear hT h hlo hy0 hy1 hy2 hB hlt hbl htt hwl
  refine callsIn_of_wp_marks Tryz.func142 rfl trivial ?_ rfl
  simp only [Tryz.ntmps142, List.size_toArray, List.length_cons, List.length_nil, Nat.reduceAdd, Nat.reduceSub, Array.replicate_succ, Array.replicate_zero, List.push_toArray, List.append_toArray, List.nil_append, List.cons_append]
  gi_wp2
  have hz1' : (w.alloc (.cells #[.slice none 0 0] 165)).heap.size = w.heap.size + 1 := by simp
  generalize hw0 : (w.alloc (.cells #[.slice none 0 0] 165)) = W0 at *
  clear hw0
  rw [← hz1'] at HBD HI0
  have HS0 := hid hz1'
  clear hz1'
  refine range_told (F := Fence.wide) (n := 3) rfl (by decide) (gf := 135) (lb := #[.pointer (some ⟨b1, 0, none⟩), .pointer (some ⟨b1 + 2, 0, none⟩), .pointer (some ⟨b1 + 1, 0, none⟩)]) rfl trivial (enters_of Tryz.func135 (by kernel_rfl) rfl)
    (fun x : Xs => #[.agg (stX pg x)]) (fun _ => rfl) (AbT W0.heap.size 93) (RkT 93) (fun _ _ => .of_below) (fun _ _ _ _ h => h.other _ _) RkT.trans RkT.tw
    (ColI u w t w.heap.size b1 o root pg lo s k W0.heap.size)
    (OkW root pg lo) (fun z x => ⟨some x.1, z.sm⟩) (FinW pg lo) ⟨none, s⟩ ?hI ?hIp HI0.out ?hit ?hround ?hdone
  case hI => exact fun z A B hz hb => hz.keep (n := W0.heap.size) (hb.below (Nat.le_refl _) (by have := hz.bw.size; have := hz.wo.lt; obtain ⟨l, v, a, -⟩ := hz.row; have := a.lt; have := HS0.out; omega)) (fun g c hg => hb.cells hg (by decide)) HBD.out
  case hIp => exact fun z A B l ob hz hb hl ho hw => hz.keep (hb.below hw) (fun g c hg => hb.cells hl ho hg) HBD.out
  case hit =>
    intro l J W hBW hJ hJI hY h0
    exact way1_in 2 (by decide) u t b1 (b1 + 2) (b1 + 1) o root pg lo HLO.out _ (fun _ m => m) ⟨none, s⟩ rfl (fun z A hz => hz.rd) l J W W0.heap.size hBW.size hJ hJI hY h0
  case hround =>
    rintro l z x W hz hok ⟨ob, hob, hoc⟩
    have hnx := wayC_next (xs := s.xs) (by rw [hz.sm]) hok.1
    have HX : Hid (atC s.xs pg x.1 = stX pg x) := by
      obtain ⟨p, e⟩ := x
      have := hok.2
      rw [hz.sm] at this
      simp only at this
      subst this
      rfl
    have HNX := hid hnx
    have HZ := hid hz
    have HO : Hid (W0.heap.size + 1 < W.heap.size) := (Array.getElem?_eq_some_iff.1 hob).1
    clear hnx hz hok
    obtain ⟨p, e⟩ := x
    obtain ⟨ep, er, el, ef⟩ := e
    simp only at HNX HX
    have HG := hid (heap_alloc_new W (.cells (stX pg (p, ⟨ep, er, el, ef⟩)) 97))
    unfold stX at HG HX ⊢
    simp only at HG HX ⊢
    generalize P.at' p.1 pg p.2 = a at *
    gi_wp2
    refine ⟨Ko.of_below (below_alloc W _), RkT.of_below (below_alloc W _), fun W2 hT2 => ?_⟩
    have hlo' := HO.out
    have hb2 : Below W0.heap.size W W2 := ((below_alloc W _).mono (by omega)).trans (hT2.below (by omega))
    have hl1 : (W.alloc (.cells #[.int .i64 p.1, .int .i64 (p.2 : Nat), .int .i64 a, .bool ep, .int .i64 er, .bool el, .int .i64 ef] 97)).heap[W0.heap.size + 1]? = some ob := P.hkeep hob _
    have hz2 : ColI u w t w.heap.size b1 o root pg lo s k W0.heap.size z W2 := HZ.out.keep hb2 (fun g c hg => hT2.cells hl1 hoc (P.hkeep hg _)) HBD.out
    have hg2 := (hT2.block W.heap.size (by omega)).trans HG.out
    have HZ2 := hid hz2
    obtain ⟨ls, v, hbx, hrow, hls⟩ := hz2.row
    have hll : ls.length ≤ 4 := by
      have := congrArg List.length hls
      have := HWL.out
      simp only [List.length_append] at *
      omega
    have hc := hbx.cell
    obtain ⟨g0, g1, g2, g3, g4, g5, g6⟩ := seven hg2
    have HBX := hid hbx
    have HROW := hid hrow
    have HLS := hid hls
    have hw2 : W0.heap.size ≤ W2.heap.size := Nat.le_trans (by omega) hb2.size
    clear hT2 hb2 hl1 hz2 hg2 hob hoc hls
    gi_wp2_with (gi_at_builtin; refine wpListIn_append_own _ rfl _ _ 165 rfl W0.heap.size 97 i0 (.agg zeC) 7 56 Tryz.underlying165 hi hz0 hz1 hz2 rfl (by decide) _ _ _ rfl (HROW.out.alloc _) ⟨W2.heap.size, 0, none⟩ 1 1 [.int .i64 p.1, .int .i64 (p.2 : Nat), .int .i64 a, .bool ep, .int .i64 er, .bool el, .int .i64 ef] rfl rfl (cells7_new _ _ _ _ _ _ _ _ _) (by simp [Value.oneCell']) (by unfold maxLen; omega) (by omega) (by simp; omega) ?_; intro v' w1 hown' hgrow _; obtain ⟨g', cap', rfl⟩ := ownsRow_succ hown'; obtain ⟨hv1, hv2, hr2, hsz, hk2, hb2⟩ := app_all HBX.out (by decide) HROW.out hown' hgrow; have hc1 := hv1.cell; have hf1 := hv1.frozen)
    obtain ⟨z1, z2, z3, z4⟩ := hsz
    have hs2 := HS0.out
    have hbw : Below w.heap.size W2 (w1.setCell ⟨w.heap.size, 0, none⟩ (.slice (some ⟨g', 0, none⟩) (ls.length + 1) cap')) :=
      ⟨z1.symm, z2.symm, z3.symm, by simpa [World.setCell] using z4, fun q hq => hb2 q (by omega) (by omega) (by omega)⟩
    have hlt := HW.out.lt
    refine ⟨⟨hk2 _ _ HZ2.out.y0 (fun c e => by injection e with _ e; cases e) (fun c e => by injection e with _ e; cases e), hk2 _ _ HZ2.out.y1 (fun c e => by injection e with _ e; cases e) (fun c e => by injection e with _ e; cases e), hk2 _ _ HZ2.out.y2 (fun c e => by injection e with _ e; cases e) (fun c e => by injection e with _ e; cases e),
      (hbw.block _ HT.out.lt).trans HZ2.out.tb, HZ2.out.wo.belowN hbw hlt.1 hlt.2, HZ2.out.bw.trans hbw, HZ2.out.sm, ls ++ [p], _, hv2, ?_, ?_⟩, ?_, ?_⟩
    · rw [List.length_append, List.length_singleton, stL_app, HX.out]
      exact hr2
    · rw [List.append_assoc, List.singleton_append, ← HNX.out]
      exact HLS.out
    · intro q ob _ hq ho
      exact hk2 q ob hq (fun c e => by subst e; cases ho) (fun c e => by subst e; cases ho)
    · intro q c hq
      exact hk2 q _ hq (fun c e => by injection e with _ e; cases e) (fun c e => by injection e with _ e; cases e)
  case hdone =>
    rintro z W hfin hz hK
    obtain ⟨p, hp, hg⟩ := hfin
    obtain ⟨ls, v, hbx, hrow, hls⟩ := hz.row
    rw [hp] at hls
    have hl2 : ls = wayF s.xs pg lo 3 root := by
      rw [← hls]
      rw [hz.sm] at hg
      show ls = ls ++ (if _ then _ else _)
      rw [hg, if_neg (by decide), List.append_nil]
    subst hl2
    have hc := hbx.cell
    have HBX := hid hbx
    have HROW := hid hrow
    have HBW := hid hz.bw
    have HK := hid hK
    have hs2 := hid HS0.out
    clear hls hg hp hz hbx hrow hK
    gi_wp2
    refine ⟨by simp, .inl ⟨_, _, rfl, run_takeDeferred HK.out, ?_⟩⟩
    exact ⟨_, results_tmp rfl _ _ _, ⟨v, rfl, O.ownsRow_base (ownsRow_putObj HROW.out _ HK.out rfl) (by have := hs2.out; omega)⟩, HBW.out.trans ((Tw.put _ _ _).below (by have := hs2.out; omega))⟩
set_option maxHeartbeats 400000 in
theorem collect_at (hT : IsT u w t 1 o root) (h : Wo u w s k) (pg : Int) (lo b1 : Nat) (hlo : lo ≤ 3) (hy0 : w.heap[b1]? = some (.cells #[.pointer (some ⟨t, 0, none⟩)] 30 (0, 0))) (hy1 : w.heap[b1 + 1]? = some (.cells #[.int .i64 pg] 3 (0, 0))) (hy2 : w.heap[b1 + 2]? = some (.cells #[.int .i64 lo] 3 (0, 0))) :
    Calls Tryz.prog 101 #[.func (.func 135) #[] #[.pointer (some ⟨b1, 0, none⟩), .pointer (some ⟨b1 + 2, 0, none⟩), .pointer (some ⟨b1 + 1, 0, none⟩)]] w fun r w' => (∃ v, r = .returned v ∧ w'.ownsRow w.heap.size 97 7 v (wayF s.xs pg lo 3 root).length (stL s.xs pg (wayF s.xs pg lo 3 root))) ∧ Below w.heap.size w w' := by
  have HC := hid (callsIn_wide.1 (collect_in hT h pg lo b1 hlo hy0 hy1 hy2))
  clear hT h hy0 hy1 hy2 hlo
  go_enter Tryz.func101, Tryz.ntmps101
  go_wp2_with fail
  refine HC.out.mono ?_
  rintro r w1 ⟨⟨v, rfl, hrow⟩, hB⟩
  have HX := hid (And.intro hrow hB)
  clear hrow hB
  go_wp2
  go_ret
  exact ⟨⟨v, rfl, HX.out.1⟩, HX.out.2⟩
end
end Go.Proofs.YtpfmmlbakbhklaaGreatDoor
