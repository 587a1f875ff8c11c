/- What becomes of a walker that loaded a word (goOn): a function of the word alone. Conditions: it is a walker that goes on. -/
import Derived.Test.YtpfmmlbakbhklaaGreatDoorS2
import Derived.Deep.RegionHeld3
import Derived.Laws.EntriesVeiled
import Derived.Shelf.Abstract
namespace Go.Proofs.YtpfmmlbakbhklaaGreatDoor
open Go.RowKit

/-- The table is written down. -/
def putP (x : Wk) (n : Nat) : Wk := match n with
  | 0 => { x with p0 := x.fr, ld := 1 }
  | 1 => { x with p1 := x.fr, ld := 2 }
  | 2 => { x with p2 := x.fr, ld := 3 }
  | _ => { x with p3 := x.fr, ld := 4 }
def ocW (o : Oc) (y : Wk) : Wk := match o with | .go f => downW y f | .fin d => endW y d
theorem putP_st (x : Wk) (n : Nat) : (putP x n).st = x.st ∧ (putP x n).pg = x.pg ∧ (putP x n).wt = x.wt ∧ (putP x n).fr = x.fr ∧ (putP x n).lv = x.lv := by
  match n with
  | 0 => exact ⟨rfl, rfl, rfl, rfl, rfl⟩
  | 1 => exact ⟨rfl, rfl, rfl, rfl, rfl⟩
  | 2 => exact ⟨rfl, rfl, rfl, rfl, rfl⟩
  | _ + 3 => exact ⟨rfl, rfl, rfl, rfl, rfl⟩
theorem WOk.putP {x : Wk} (k : WOk x) (n : Nat) : WOk (putP x n) := by
  obtain ⟨-, a, b, c, d⟩ := putP_st x n
  exact ⟨by rw [a]; exact k.pg0, by rw [a]; exact k.pg1, by rw [b]; exact k.wt0, by rw [b]; exact k.wt1, by rw [c]; exact k.fr0, by rw [c]; exact k.fr1, by rw [d]; exact k.lv0, by rw [d]; exact k.lv1⟩
theorem endW_eq (y : Wk) (f r v v' e : Int) : endW y ⟨f, r, v, e⟩ = endW y ⟨f, r, v', e⟩ := rfl
theorem kind_eq (y : Wk) (d : P.En) (i : Nat) (h : isB i d y.lv = true) (hn : ∀ j, j < i → isB j d y.lv = false) : beW i y d = ocW (kn d y.pg y.wt y.lv) y := by
  have f : ∀ {b : Bool}, b = false → ¬ b = true := fun h h' => by rw [h] at h'; cases h'
  have n0 : 0 < i → ¬ (!d.p) = true := fun hi => f (hn 0 hi)
  have n1 : 1 < i → ¬ (P.tb d && decide (0 < y.lv)) = true := fun hi => f (hn 1 hi)
  have n2 : 2 < i → ¬ (d.l && y.lv == 1) = true := fun hi => f (hn 2 hi)
  have n3 : 3 < i → ¬ (!P.tb d && !d.l && y.lv == 0) = true := fun hi => f (hn 3 hi)
  clear hn
  unfold kn
  match i with
  | 0 => rw [if_pos (show (!d.p) = true from h)]; rfl
  | 1 =>
    rw [if_neg (n0 (by omega)), if_pos (show (P.tb d && decide (0 < y.lv)) = true from h)]; rfl
  | 2 =>
    rw [if_neg (n0 (by omega)), if_neg (n1 (by omega)), if_pos (show (d.l && y.lv == 1) = true from h)]; rfl
  | 3 =>
    rw [if_neg (n0 (by omega)), if_neg (n1 (by omega)), if_neg (n2 (by omega)), if_pos (show (!P.tb d && !d.l && y.lv == 0) = true from h)]; rfl
  | n + 4 =>
    rw [if_neg (n0 (by omega)), if_neg (n1 (by omega)), if_neg (n2 (by omega)), if_neg (n3 (by omega))]; rfl
def pAt (x : Wk) (n : Nat) : Int := match n with | 0 => x.p0 | 1 => x.p1 | 2 => x.p2 | _ => x.p3
theorem IsWk.path {w : World} {g : Nat} {x : Wk} (h : IsWk w g x) (n : Nat) (hn : n < 4) : w.cell? ⟨g, 5 + n, none⟩ = some (.int .i64 (pAt x n)) := by
  refine cell_of h ?_
  match n, hn with
  | 0, _ => rfl
  | 1, _ => rfl
  | 2, _ => rfl
  | 3, _ => rfl
theorem IsWk.put {w : World} {g : Nat} {x : Wk} (h : IsWk w g x) (n : Nat) (hn : n < 4) : IsWk ((w.setCell ⟨g, 5 + n, none⟩ (.int .i64 x.fr)).setCell ⟨g, 9, none⟩ (.int .i64 ((n : Int) + 1))) g (putP x n) := by
  refine (heap_setCell_self (heap_setCell_self h _) _).trans ?_
  match n, hn with
  | 0, _ => rfl
  | 1, _ => rfl
  | 2, _ => rfl
  | 3, _ => rfl

theorem size_put (w : World) (g i j : Nat) (a b : Value) : ((w.setCell ⟨g, i, none⟩ a).setCell ⟨g, j, none⟩ b).heap.size = w.heap.size := by simp [World.setCell]
/-- What stands behind the call of Parse. -/
theorem mid_of {w w1 : World} {g : Nat} {x : Wk} (h : IsWk w g x) (n : Nat) (h4 : n < 4) (c : Array Value)
    (hB : Below (((w.setCell ⟨g, 5 + n, none⟩ (.int .i64 x.fr)).setCell ⟨g, 9, none⟩ (.int .i64 ((n : Int) + 1))).alloc (.cells c 172)).drew.heap.size (((w.setCell ⟨g, 5 + n, none⟩ (.int .i64 x.fr)).setCell ⟨g, 9, none⟩ (.int .i64 ((n : Int) + 1))).alloc (.cells c 172)).drew w1) :
    IsWk w1 g (putP x n) ∧ w1.heap[w.heap.size]? = some (.cells c 172 (0, 0)) ∧ But g g w w1 ∧ w.heap.size < w1.heap.size := by
  have hs := size_put w g (5 + n) 9 (.int .i64 x.fr) (.int .i64 ((n : Int) + 1))
  have hp := h.put n h4
  have hb : But g g w ((w.setCell ⟨g, 5 + n, none⟩ (.int .i64 x.fr)).setCell ⟨g, 9, none⟩ (.int .i64 ((n : Int) + 1))) := ((But.refl g g w).own _).own _
  generalize (w.setCell ⟨g, 5 + n, none⟩ (.int .i64 x.fr)).setCell ⟨g, 9, none⟩ (.int .i64 ((n : Int) + 1)) = W at *
  have hA : Below W.heap.size W (W.alloc (.cells c 172)).drew := ((Below.refl _ _).alloc (Nat.le_refl _) _).drew
  have hn := heap_alloc_new W (.cells c 172 (0, 0))
  have hn := P.stay hB (P.stay ((Below.refl _ (W.alloc (.cells c 172))).drew) hn)
  have hAll := hA.trans (hB.mono hA.size)
  refine ⟨hp.below hAll, by rw [← hs]; exact hn, hb.trans (But.of_below hAll), ?_⟩
  rw [← hs]
  exact lt_of_block hn

set_option maxRecDepth 100000 in
set_option maxHeartbeats 1000000 in
theorem goOn_bad {w : World} {g : Nat} {x : Wk} (h : IsWk w g x) (n : Nat) (hn : x.ld = n) (h4 : n < 4) (v : Nat) (hv : v < 18446744073709551616) (ok : Bool) (e : Int) (hb : (e == 0 && P.prY v) = false) :
    Calls Tryz.prog 105 #[.pointer (some ⟨g, 0, none⟩), reV ⟨v, ok, e⟩] w fun r w' => r = .returned (.tuple #[]) ∧ IsWk w' g (endW (putP x n) ⟨0, 0, 0, 11⟩) ∧ But g g w w' := by
  have hl := h.lt
  have c9 := h.c9
  have c3 := h.c3
  have cn := h.path n h4
  have f9 := h.free 9
  have fn := h.free (5 + n)
  have hw : IntKind.i64.wrap ((n : Int) + 1) = (n : Int) + 1 := i64w (by omega) (by omega)
  have hlt : (n : Int) < 4 := by omega
  rw [hn] at c9
  have HX := hid h
  have HD := hid hb
  obtain ⟨⟨dp, dr, dl, df⟩, hD⟩ : ∃ D, P.prD v = D := ⟨_, rfl⟩
  obtain ⟨bb, hY⟩ : ∃ b, P.prY v = b := ⟨_, rfl⟩
  have HP := hid (fun W => P.parse_at v hv W)
  rw [hD, hY] at HP
  rw [hY] at HD
  clear h hn hb hD hY
  show Calls Tryz.prog 105 #[.pointer (some ⟨g, 0, none⟩), .agg #[.int .u64 v, .bool ok, .int .i64 e]] w _
  go_enter Tryz.func105, Tryz.ntmps105
  go_wp2_with fail
  go_region
  go_wp2_with fail
  refine (HP.out _).mono ?_
  rintro r w1 ⟨rfl, hB⟩
  obtain ⟨m1, m2, m3, m4⟩ := mid_of HX.out n h4 _ hB
  have c2 := cell_of (i := 2) m2 rfl
  have HM := hid m1
  have HB := hid m3
  clear hB m1 m2 m3 c9 c3 cn f9 fn hw hlt hl
  simp only [P.ptwo, P.eV]
  cases hE : e == 0
  · cases bb
    all_goals
      have he : (e != 0) = true := by simp [bne, hE]
      clear HD hE
      go_wp2_with fail
      refine (fail_at (HM.out.below (below_alloc _ _)) 11).mono ?_
      rintro r w2 ⟨rfl, h1, h2⟩
      have H1 := hid h1
      have H2 := hid (HB.out.trans ((But.of_below (below_alloc _ _)).trans h2))
      clear h1 h2
      go_wp2
      first | go_end0 | (refine bodyPost_ret (results_none rfl _ _ _) rfl ?_)
      exact ⟨rfl, H1.out, H2.out⟩
  · have h0 : e = 0 := by simpa using hE
    subst h0
    have hbb : bb = false := by have := HD.out; simpa using this
    subst hbb
    clear HD hE
    go_wp2_with fail
    refine (fail_at (HM.out.below (below_alloc _ _)) 11).mono ?_
    rintro r w2 ⟨rfl, h1, h2⟩
    have H1 := hid h1
    have H2 := hid (HB.out.trans ((But.of_below (below_alloc _ _)).trans h2))
    clear h1 h2
    go_wp2
    first | go_end0 | (refine bodyPost_ret (results_none rfl _ _ _) rfl ?_)
    exact ⟨rfl, H1.out, H2.out⟩

theorem is_enters (i : Nat) (args : Array Value) (w : World) : (callFunc (isF i) args).run Tryz.prog w = .ok (.enter (isF i) args) w := by
  match i with
  | 0 => exact enters_of Tryz.func174 (by kernel_rfl) rfl args w
  | 1 => exact enters_of Tryz.func176 (by kernel_rfl) rfl args w
  | 2 => exact enters_of Tryz.func178 (by kernel_rfl) rfl args w
  | 3 => exact enters_of Tryz.func180 (by kernel_rfl) rfl args w
  | _ + 4 => exact enters_of Tryz.func182 (by kernel_rfl) rfl args w
theorem be_enters (i : Nat) (args : Array Value) (w : World) : (callFunc (beF i) args).run Tryz.prog w = .ok (.enter (beF i) args) w := by
  match i with
  | 0 => exact enters_of Tryz.func175 (by kernel_rfl) rfl args w
  | 1 => exact enters_of Tryz.func177 (by kernel_rfl) rfl args w
  | 2 => exact enters_of Tryz.func179 (by kernel_rfl) rfl args w
  | 3 => exact enters_of Tryz.func181 (by kernel_rfl) rfl args w
  | _ + 4 => exact enters_of Tryz.func183 (by kernel_rfl) rfl args w
/-- What is asked for while it is found out which kind it is. -/
abbrev Sk (wr : World) (g eb : Nat) (dp : Bool) (dr : Int) (dl : Bool) (df lv : Int) (f1 f2 : FuncId) (w' : World) : Prop :=
  w'.cell? ⟨wr.heap.size, 0, none⟩ = some (.func (.func f1) #[] #[]) ∧ w'.cell? ⟨eb, 0, none⟩ = some (.bool dp) ∧ w'.cell? ⟨eb, 1, none⟩ = some (.int .i64 dr) ∧ w'.cell? ⟨eb, 2, none⟩ = some (.bool dl) ∧ w'.cell? ⟨eb, 3, none⟩ = some (.int .i64 df) ∧ w'.cell? ⟨g, 4, none⟩ = some (.int .i64 lv) ∧ Below (wr.alloc (.cells #[.func (.func f1) #[] #[], .func (.func f2) #[] #[]] 212)).heap.size (wr.alloc (.cells #[.func (.func f1) #[] #[], .func (.func f2) #[] #[]] 212)) w'
theorem Sk.of {wr w' : World} {g eb : Nat} {x : Wk} {dp : Bool} {dr : Int} {dl : Bool} {df : Int} (hM : IsWk wr g x) (hE : wr.heap[eb]? = some (.cells #[.bool dp, .int .i64 dr, .bool dl, .int .i64 df] 95 (0, 0))) (f1 f2 : FuncId)
    (hB : Below (wr.alloc (.cells #[.func (.func f1) #[] #[], .func (.func f2) #[] #[]] 212)).heap.size (wr.alloc (.cells #[.func (.func f1) #[] #[], .func (.func f2) #[] #[]] 212)) w') : Sk wr g eb dp dr dl df x.lv f1 f2 w' := by
  have h1 := P.stay hB (P.hkeep hE _)
  exact ⟨cell_of (P.stay hB (heap_alloc_new _ _)) rfl, cell_of h1 rfl, cell_of h1 rfl, cell_of h1 rfl, cell_of h1 rfl, ((hM.below (below_alloc _ _)).below hB).c4, hB⟩
theorem Sk.step {wr w' w2 : World} {g eb : Nat} {dp : Bool} {dr : Int} {dl : Bool} {df lv : Int} {f1 f2 : FuncId} (h : Sk wr g eb dp dr dl df lv f1 f2 w') (hB : Below w'.heap.size w' w2) : Sk wr g eb dp dr dl df lv f1 f2 w2 := by
  obtain ⟨z, a, b, c, d, e, f⟩ := h
  have lt : ∀ {q j : Nat} {v : Value}, w'.cell? ⟨q, j, none⟩ = some v → q < w'.heap.size := fun h => World.block_lt_of_cell? w' ⟨_, _, none⟩ h
  exact ⟨(hB.cell (p := ⟨_, 0, none⟩) (lt z)).trans z, (hB.cell (p := ⟨eb, 0, none⟩) (lt a)).trans a, (hB.cell (p := ⟨eb, 1, none⟩) (lt b)).trans b, (hB.cell (p := ⟨eb, 2, none⟩) (lt c)).trans c, (hB.cell (p := ⟨eb, 3, none⟩) (lt d)).trans d, (hB.cell (p := ⟨g, 4, none⟩) (lt e)).trans e, f.trans (hB.mono f.size)⟩
theorem prD_rd {v : Nat} (h : P.prY v = true) : P.prD v = P.rd v := by unfold P.prD; rw [if_pos h]
set_option maxRecDepth 100000 in
set_option maxHeartbeats 2000000 in
theorem goOn_ok {w : World} {g : Nat} {x : Wk} (h : IsWk w g x) (k : WOk x) (n : Nat) (hn : x.ld = n) (h4 : n < 4) (v : Nat) (hv : v < 18446744073709551616) (ok : Bool) (hb : P.prY v = true) :
    Calls Tryz.prog 105 #[.pointer (some ⟨g, 0, none⟩), reV ⟨v, ok, 0⟩] w fun r w' => r = .returned (.tuple #[]) ∧ IsWk w' g (ocW (kn (P.rd v) x.pg x.wt x.lv) (putP x n)) ∧ But g g w w' := by
  have hl := h.lt
  have c9 := h.c9
  have c3 := h.c3
  have cn := h.path n h4
  have f9 := h.free 9
  have fn := h.free (5 + n)
  have hw : IntKind.i64.wrap ((n : Int) + 1) = (n : Int) + 1 := i64w (by omega) (by omega)
  have hlt : (n : Int) < 4 := by omega
  rw [hn] at c9
  have HX := hid h
  have hr := P.rt_in (prY_rt hb)
  obtain ⟨D, hD⟩ : ∃ D, P.rd v = D := ⟨_, rfl⟩
  have HP := hid (fun W => P.parse_at v hv W)
  rw [prD_rd hb, hD, hb] at HP
  rw [hD] at hr ⊢
  obtain ⟨y, hy⟩ : ∃ y, putP x n = y := ⟨_, rfl⟩
  have ky : WOk y := hy ▸ k.putP n
  obtain ⟨-, e1, e2, -, e3⟩ := putP_st x n
  rw [← e1, ← e2, ← e3, hy]
  have HK := hid (kind_eq y D)
  have HI : Hid (∀ i W, Calls Tryz.prog (isF i) #[P.eV D, .int .i64 y.lv] W fun e w' => e = .returned (.bool (isB i D y.lv)) ∧ Below W.heap.size W w') := hid (fun i W => is_at i D y.lv W)
  have HE : Hid (∀ i W, IsWk W g y → Calls Tryz.prog (beF i) #[.pointer (some ⟨g, 0, none⟩), P.eV D] W fun e w' => e = .returned (.tuple #[]) ∧ IsWk w' g (beW i y D) ∧ But g g W w') := hid (fun i W hW => be_at i hW ky D hr.2.2.1 hr.2.2.2)
  have HF : Hid (isB 4 D y.lv = true) := hid rfl
  generalize beW = be at *
  obtain ⟨z, hz⟩ : ∃ z, ocW (kn D y.pg y.wt y.lv) y = z := ⟨_, rfl⟩
  rw [hz] at HK ⊢
  generalize isB = ib at *
  have Hy := hid hy
  obtain ⟨dp, dr, dl, df⟩ := D
  clear h hn hb hD hy hz hr ky e1 e2 e3 k
  show Calls Tryz.prog 105 #[.pointer (some ⟨g, 0, none⟩), .agg #[.int .u64 v, .bool ok, .int .i64 0]] w _
  go_enter Tryz.func105, Tryz.ntmps105
  go_wp2_with fail
  go_region
  go_wp2_with fail
  refine (HP.out _).mono ?_
  rintro r w1 ⟨rfl, hB⟩
  obtain ⟨m1, m2, m3, m4⟩ := mid_of HX.out n h4 _ hB
  rw [Hy.out] at m1
  have c2 := cell_of (i := 2) m2 rfl
  have HM := hid m1
  have HB := hid m3
  clear hB m1 m2 m3 c9 c3 cn f9 fn hw hlt hl
  simp only [P.ptwo, P.eV]
  go_wp2_with fail
  refine (kinds_at _).mono ?_
  rintro r w2 ⟨rfl, hw2⟩
  have m1 : IsWk w2 g y := by rw [hw2]; exact (HM.out.below (below_alloc _ _)).below (below_alloc _ _)
  have m2 : w2.heap[w1.heap.size]? = some (.cells #[.bool dp, .int .i64 dr, .bool dl, .int .i64 df] 95 (0, 0)) := by
    rw [hw2]; exact P.hkeep (heap_alloc_new _ _) _
  have m3 : w2.heap[w1.heap.size + 1]? = some (.cells kC 212 (0, 0)) := by
    rw [hw2]; exact (P.two_new w1 _ _).2
  have m5 : But g g w w2 := by
    rw [hw2]; exact HB.out.trans ((But.of_below (below_alloc _ _)).trans (But.of_below (below_alloc _ _)))
  rw [show ((w1.alloc (.cells #[.bool dp, .int .i64 dr, .bool dl, .int .i64 df] 95)).heap.size) = w1.heap.size + 1 by simp]
  have HM' := hid m1
  have HE' := hid m2
  have HK' := hid m3
  have HB' := hid m5
  have he1 : w.heap.size ≤ w1.heap.size := HB.out.size
  have he2 : w1.heap.size ≠ g := by have := HX.out.lt; omega
  have he3 : w1.heap.size + 1 ≠ g := by have := HX.out.lt; omega
  clear m1 m2 m3 m4 m5 hw2 HM HB c2 he1
  generalize w1.heap.size + 1 = kb at *
  generalize w1.heap.size = eb at *
  go_wp2_with fail
  go_loopw [44] (fun i wr => ∃ k : Nat, k ≤ 4 ∧ i = .int .i64 k ∧ (∀ j, j < k → ib j ⟨dp, dr, dl, df⟩ y.lv = false) ∧ IsWk wr g y ∧ wr.heap[eb]? = some (.cells #[.bool dp, .int .i64 dr, .bool dl, .int .i64 df] 95 (0, 0)) ∧ wr.heap[kb]? = some (.cells kC 212 (0, 0)) ∧ But g g w wr) (fun i _ => 5 - (intOf i).toNat)
  case atStart => exact ⟨0, Nat.zero_le _, rfl, fun j hj => absurd hj (Nat.not_lt_zero _), HM'.out, HE'.out, HK'.out, HB'.out⟩
  case round =>
    obtain ⟨k, hk, rfl, hn, hM, hE, hK, hB⟩ := hrel
    obtain ⟨q0, q1⟩ := kC_at k (by omega)
    have k0 := cell_of hK q0
    have k1 := cell_of hK q1
    have c4 := hM.c4
    have hi : (k : Int) < 5 := by omega
    have hwk : IntKind.i64.wrap ((k : Int) + 1) = (k : Int) + 1 := i64w (by omega) (by omega)
    have HIk := hid (HI.out k)
    have HEk := hid (HE.out k)
    have HKk := hid (HK.out k)
    have en1 := is_enters k
    have en2 := be_enters k
    have hS0 : Sk wr g eb dp dr dl df y.lv (isF k) (beF k) (wr.alloc (.cells #[.func (.func (isF k)) #[] #[], .func (.func (beF k)) #[] #[]] 212)).drew := Sk.of hM hE (isF k) (beF k) (Below.refl _ _).drew
    obtain ⟨b, hb⟩ : ∃ b, ib k ⟨dp, dr, dl, df⟩ y.lv = b := ⟨_, rfl⟩
    have HQ := hid hb
    have HN := hid hn
    rw [hb] at HIk
    have H4 : Hid (k = 4 → b = true) := hid (fun e => by rw [← hb, e]; exact HF.out)
    have UM := hid hM
    have UE := hid hE
    have UK := hid hK
    have UB := hid hB
    clear hb hn q0 q1 hM hE hK hB HI
    generalize isF k = f1 at *
    generalize beF k = f2 at *
    have HLv := hid (rfl : y.lv = y.lv)
    clear HLv
    cases b
    · go_wp2_with fail
      go_region_held3 (Sk wr g eb dp dr dl df y.lv f1 f2) (first | exact hS0 | assumption)
        (first | (refine (HIk.out _).mono ?_; rintro e v' ⟨rfl, hB⟩; have hS' := Sk.step (by assumption) hB))
      rename_i hHeld
      clear hHeld hS0
      have hB2 := (below_alloc wr (.cells #[.func (.func f1) #[] #[], .func (.func f2) #[] #[]] 212)).trans (hS'.2.2.2.2.2.2.mono (by simp))
      have HB2 := hid hB2
      clear hB2 hS' hB
      go_wp2_with fail
      go_roundw
      case rel =>
        have k4 : k ≠ 4 := fun e => by have := H4.out e; cases this
        refine ⟨k + 1, by omega, by go_num, fun j hj => ?_, UM.out.below HB2.out, P.stay HB2.out UE.out, P.stay HB2.out UK.out, UB.out.trans (But.of_below HB2.out)⟩
        by_cases hjk : j < k
        · exact HN.out j hjk
        · have : j = k := by omega
          rw [this]; exact HQ.out
      case measure => simp [intOf]; omega
    · go_wp2_with fail
      go_region_held3 (Sk wr g eb dp dr dl df y.lv f1 f2) (first | exact hS0 | assumption)
        (first | (refine (HIk.out _).mono ?_; rintro e v' ⟨rfl, hB⟩; have hS' := Sk.step (by assumption) hB))
      rename_i hHeld
      clear hHeld hS0
      have hB2 := (below_alloc wr (.cells #[.func (.func f1) #[] #[], .func (.func f2) #[] #[]] 212)).trans (hS'.2.2.2.2.2.2.mono (by simp))
      have d1 := cell_of (i := 1) (P.stay hS'.2.2.2.2.2.2 (heap_alloc_new wr _)) rfl
      have hE2 := P.stay hB2 UE.out
      have e0 := cell_of (i := 0) hE2 rfl
      have e1 := cell_of (i := 1) hE2 rfl
      have e2 := cell_of (i := 2) hE2 rfl
      have e3 := cell_of (i := 3) hE2 rfl
      have HB2 := hid hB2
      clear hB2 hS' hB hE2
      go_wp2_with fail
      refine (HEk.out _ (UM.out.below HB2.out)).mono ?_
      rintro r w3 ⟨rfl, h1, h2⟩
      rw [HKk.out HQ.out HN.out] at h1
      have H1 := hid h1
      have H2 := hid (UB.out.trans ((But.of_below HB2.out).trans h2))
      clear h1 h2
      go_wp2
      first | go_end0 | (refine bodyPost_ret (results_none rfl _ _ _) rfl ?_)
      exact ⟨rfl, H1.out, H2.out⟩
end Go.Proofs.YtpfmmlbakbhklaaGreatDoor
