/- What the calls of the table of kinds return and leave: which kind an entry is of, and what becomes of a walker. No conditions but that it is a walker. -/
import Derived.Test.YtpfmmlbakbhklaaGreatDoorS1
namespace Go.Proofs.YtpfmmlbakbhklaaGreatDoor
open Go.RowKit

set_option maxHeartbeats 400000 in
theorem reach_at {w : World} {g : Nat} {x : Wk} (h : IsWk w g x) (d : P.En) (w0 : 0 ≤ x.wt) (w1 : x.wt ≤ 7) :
    Calls Tryz.prog 181 #[.pointer (some ⟨g, 0, none⟩), P.eV d] w fun e w' => e = .returned (.tuple #[]) ∧ IsWk w' g (arrW x d d.f) ∧ But g g w w' := by
  have HA := hid (arrive_at (h.below (below_alloc w (.cells #[.bool d.p, .int .i64 d.r, .bool d.l, .int .i64 d.f] 95))) d d.f w0 w1)
  clear h w0 w1
  obtain ⟨dp, dr, dl, df⟩ := d
  show Calls Tryz.prog 181 #[.pointer (some ⟨g, 0, none⟩), .agg #[.bool dp, .int .i64 dr, .bool dl, .int .i64 df]] w _
  go_enter Tryz.func181, Tryz.ntmps181
  go_wp2_with fail
  refine HA.out.mono ?_
  rintro e w1 ⟨rfl, h1, h2⟩
  have H1 := hid h1
  have H2 := hid ((But.of_below (below_alloc w _)).trans h2)
  clear h1 h2
  go_wp2
  go_end0
  exact ⟨rfl, H1.out, H2.out⟩

abbrev Sp (g k : Nat) (dp : Bool) (dr : Int) (dl : Bool) (df z : Int) (w' : World) : Prop :=
  w'.cell? ⟨k, 0, none⟩ = some (.bool dp) ∧ w'.cell? ⟨k, 1, none⟩ = some (.int .i64 dr) ∧ w'.cell? ⟨k, 2, none⟩ = some (.bool dl) ∧ w'.cell? ⟨k, 3, none⟩ = some (.int .i64 df) ∧ w'.cell? ⟨g, 1, none⟩ = some (.int .i64 z)
theorem tmod16 {a : Int} (h : 0 ≤ a) : a.tmod 16 = a % 16 := Int.tmod_eq_emod_of_nonneg h
set_option maxHeartbeats 1000000 in
theorem reachPart_at {w : World} {g : Nat} {x : Wk} (h : IsWk w g x) (d : P.En) (w0 : 0 ≤ x.wt) (w1 : x.wt ≤ 7) (g0 : 0 ≤ x.pg) (f0 : 0 ≤ d.f) (f1 : d.f ≤ 4095) :
    Calls Tryz.prog 179 #[.pointer (some ⟨g, 0, none⟩), P.eV d] w fun e w' => e = .returned (.tuple #[]) ∧ IsWk w' g (arrW x d (d.f + x.pg % 16)) ∧ But g g w w' := by
  have hl := h.lt
  have e1 := tmod16 g0
  have e2 : IntKind.i64.wrap (x.pg % 16) = x.pg % 16 := i64w (by omega) (by omega)
  have e3 : IntKind.i64.wrap (d.f + x.pg % 16) = d.f + x.pg % 16 := i64w (by omega) (by omega)
  have HA := hid (arrive_at (h.below (((Below.refl _ _).alloc (Nat.le_refl _) (.cells #[.bool d.p, .int .i64 d.r, .bool d.l, .int .i64 d.f] 95)).drew)) d (d.f + x.pg % 16) w0 w1)
  have HX := hid (h.below (((Below.refl _ _).alloc (Nat.le_refl _) (.cells #[.bool d.p, .int .i64 d.r, .bool d.l, .int .i64 d.f] 95)).drew))
  have hb := P.stay ((Below.refl _ (w.alloc (.cells #[.bool d.p, .int .i64 d.r, .bool d.l, .int .i64 d.f] 95))).drew) (heap_alloc_new w (.cells #[.bool d.p, .int .i64 d.r, .bool d.l, .int .i64 d.f] 95 (0, 0)))
  have HB : Hid (But g g w (w.alloc (.cells #[.bool d.p, .int .i64 d.r, .bool d.l, .int .i64 d.f] 95)).drew) := hid (But.of_below (((Below.refl _ _).alloc (Nat.le_refl _) _).drew))
  have hg : w.heap.size ≠ g := by omega
  clear h w0 w1 g0 f0 f1
  obtain ⟨dp, dr, dl, df⟩ := d
  simp only at *
  have hS0 : Sp g w.heap.size dp dr dl df x.pg (w.alloc (.cells #[.bool dp, .int .i64 dr, .bool dl, .int .i64 df] 95)).drew := ⟨cell_of hb rfl, cell_of hb rfl, cell_of hb rfl, cell_of hb rfl, HX.out.c1⟩
  have HH := hid (HA.out.mono (R' := fun e w' => e = .returned (.tuple #[]) ∧ Hid (IsWk w' g (arrW x ⟨dp, dr, dl, df⟩ (df + x.pg % 16)) ∧ But g g w w') ∧ Sp g w.heap.size dp dr dl df x.pg w') fun e w' ⟨a, b, c⟩ =>
    have hb' := (c.block _ (by simp) hg hg).trans hb
    ⟨a, hid ⟨b, HB.out.trans c⟩, cell_of hb' rfl, cell_of hb' rfl, cell_of hb' rfl, cell_of hb' rfl, b.c1⟩)
  clear HA HB hb hg
  simp only [Sp] at hS0 HH
  generalize x.pg = pg at *
  show Calls Tryz.prog 179 #[.pointer (some ⟨g, 0, none⟩), .agg #[.bool dp, .int .i64 dr, .bool dl, .int .i64 df]] w _
  go_enter Tryz.func179, Tryz.ntmps179
  go_wp2_with fail
  go_region_held3 (fun w' => w'.cell? ⟨w.heap.size, 0, none⟩ = some (.bool dp) ∧ w'.cell? ⟨w.heap.size, 1, none⟩ = some (.int .i64 dr) ∧ w'.cell? ⟨w.heap.size, 2, none⟩ = some (.bool dl) ∧ w'.cell? ⟨w.heap.size, 3, none⟩ = some (.int .i64 df) ∧ w'.cell? ⟨g, 1, none⟩ = some (.int .i64 pg)) (first | with_reducible exact hS0 | with_reducible assumption)
    (first
      | (go_at_call 85; refine (P.n_at (c := 16) (P.span_at 1 _) (by decide)).mono ?_; rintro e v' ⟨rfl, hw'⟩; rw [hw']; clear hw' v')
      | (go_at_call 194; refine HH.out.mono ?_; rintro e v' ⟨rfl, hm', hs'⟩))
  go_wp2
  go_end0
  exact ⟨rfl, hm'.out⟩

/-! ### Which kind an entry is of -/
set_option maxHeartbeats 400000 in
theorem isAbsent_at (d : P.En) (v : Int) (w : World) : Calls Tryz.prog 174 #[P.eV d, .int .i64 v] w fun e w' => e = .returned (.bool (!d.p)) ∧ Below w.heap.size w w' := by
  obtain ⟨dp, dr, dl, df⟩ := d
  show Calls Tryz.prog 174 #[.agg #[.bool dp, .int .i64 dr, .bool dl, .int .i64 df], .int .i64 v] w _
  go_enter Tryz.func174, Tryz.ntmps174
  go_wp2
  go_ret
  exact ⟨rfl, below_alloc _ _⟩

set_option maxHeartbeats 400000 in
theorem leadsOn_at (d : P.En) (v : Int) (w : World) : Calls Tryz.prog 176 #[P.eV d, .int .i64 v] w fun e w' => e = .returned (.bool (P.tb d && decide (0 < v))) ∧ Below w.heap.size w w' := by
  obtain ⟨b, hb⟩ : ∃ b, P.tb d = b := ⟨_, rfl⟩
  have HT := hid hb
  rw [hb]
  clear hb
  obtain ⟨dp, dr, dl, df⟩ := d
  cases b
  · show Calls Tryz.prog 176 #[.agg #[.bool dp, .int .i64 dr, .bool dl, .int .i64 df], .int .i64 v] w _
    go_enter Tryz.func176, Tryz.ntmps176
    go_wp2_with fail
    refine (P.bl_at (P.table_at ⟨dp, dr, dl, df⟩ _) HT.out).mono ?_
    rintro e w1 ⟨rfl, hB⟩
    have HB := hid (bel_trans (below_alloc w _) hB)
    clear hB
    go_wp2
    go_ret
    exact ⟨rfl, HB.out⟩
  · by_cases h0 : 0 < v
    all_goals
      show Calls Tryz.prog 176 #[.agg #[.bool dp, .int .i64 dr, .bool dl, .int .i64 df], .int .i64 v] w _
      go_enter Tryz.func176, Tryz.ntmps176
      go_wp2_with fail
      refine (P.bl_at (P.table_at ⟨dp, dr, dl, df⟩ _) HT.out).mono ?_
      rintro e w1 ⟨rfl, hB⟩
      have HB := hid (bel_trans (below_alloc w _) hB)
      clear hB
      go_wp2
      go_ret
      refine ⟨?_, HB.out⟩
      simp [h0]

set_option maxHeartbeats 400000 in
theorem isLarge_at (d : P.En) (v : Int) (w : World) : Calls Tryz.prog 178 #[P.eV d, .int .i64 v] w fun e w' => e = .returned (.bool (d.l && v == 1)) ∧ Below w.heap.size w w' := by
  obtain ⟨dp, dr, dl, df⟩ := d
  cases dl
  · show Calls Tryz.prog 178 #[.agg #[.bool dp, .int .i64 dr, .bool false, .int .i64 df], .int .i64 v] w _
    go_enter Tryz.func178, Tryz.ntmps178
    go_wp2
    go_ret
    exact ⟨rfl, below_alloc _ _⟩
  · show Calls Tryz.prog 178 #[.agg #[.bool dp, .int .i64 dr, .bool true, .int .i64 df], .int .i64 v] w _
    go_enter Tryz.func178, Tryz.ntmps178
    go_wp2
    go_ret
    exact ⟨rfl, below_alloc _ _⟩

set_option maxHeartbeats 400000 in
theorem isSmall_at (d : P.En) (v : Int) (w : World) : Calls Tryz.prog 180 #[P.eV d, .int .i64 v] w fun e w' => e = .returned (.bool (!P.tb d && !d.l && v == 0)) ∧ Below w.heap.size w w' := by
  obtain ⟨b, hb⟩ : ∃ b, P.tb d = b := ⟨_, rfl⟩
  have HT := hid hb
  rw [hb]
  clear hb
  obtain ⟨dp, dr, dl, df⟩ := d
  cases b <;> cases dl
  all_goals
    show Calls Tryz.prog 180 #[.agg #[.bool dp, .int .i64 dr, .bool _, .int .i64 df], .int .i64 v] w _
    go_enter Tryz.func180, Tryz.ntmps180
    go_wp2_with fail
    refine (P.bl_at (P.table_at ⟨dp, dr, _, df⟩ _) HT.out).mono ?_
    rintro e w1 ⟨rfl, hB⟩
    have c2 := cell_of (i := 2) (P.stay hB (heap_alloc_new w _)) rfl
    have HB := hid (bel_trans (below_alloc w _) hB)
    clear hB
    go_wp2
    go_ret
    exact ⟨rfl, HB.out⟩

set_option maxHeartbeats 400000 in
theorem isElse_at (d : P.En) (v : Int) (w : World) : Calls Tryz.prog 182 #[P.eV d, .int .i64 v] w fun e w' => e = .returned (.bool true) ∧ Below w.heap.size w w' := by
  obtain ⟨dp, dr, dl, df⟩ := d
  show Calls Tryz.prog 182 #[.agg #[.bool dp, .int .i64 dr, .bool dl, .int .i64 df], .int .i64 v] w _
  go_enter Tryz.func182, Tryz.ntmps182
  go_wp2
  go_ret
  exact ⟨rfl, below_alloc _ _⟩

/-! ### The table -/
def isF (i : Nat) : FuncId := match i with | 0 => 174 | 1 => 176 | 2 => 178 | 3 => 180 | _ => 182
def beF (i : Nat) : FuncId := match i with | 0 => 175 | 1 => 177 | 2 => 179 | 3 => 181 | _ => 183
def isB (i : Nat) (d : P.En) (v : Int) : Bool := match i with | 0 => !d.p | 1 => P.tb d && decide (0 < v) | 2 => d.l && v == 1 | 3 => !P.tb d && !d.l && v == 0 | _ => true
def beW (i : Nat) (x : Wk) (d : P.En) : Wk := match i with | 0 => endW x ⟨0, 0, 0, 4⟩ | 1 => downW x d.f | 2 => arrW x d (d.f + x.pg % 16) | 3 => arrW x d d.f | _ => endW x ⟨0, 0, 0, 11⟩
abbrev kC : Array Value := #[.func (.func 174) #[] #[], .func (.func 175) #[] #[], .func (.func 176) #[] #[], .func (.func 177) #[] #[], .func (.func 178) #[] #[], .func (.func 179) #[] #[], .func (.func 180) #[] #[], .func (.func 181) #[] #[], .func (.func 182) #[] #[], .func (.func 183) #[] #[]]
theorem is_at (i : Nat) (d : P.En) (v : Int) (w : World) : Calls Tryz.prog (isF i) #[P.eV d, .int .i64 v] w fun e w' => e = .returned (.bool (isB i d v)) ∧ Below w.heap.size w w' := by
  match i with
  | 0 => exact isAbsent_at d v w
  | 1 => exact leadsOn_at d v w
  | 2 => exact isLarge_at d v w
  | 3 => exact isSmall_at d v w
  | _ + 4 => exact isElse_at d v w
/-- A walker that goes on: the numbers in it, and what they are below. -/
structure WOk (x : Wk) : Prop where
  pg0 : 0 ≤ x.pg
  pg1 : x.pg ≤ 65535
  wt0 : 0 ≤ x.wt
  wt1 : x.wt ≤ 7
  fr0 : 0 ≤ x.fr
  fr1 : x.fr ≤ 4095
  lv0 : 0 ≤ x.lv
  lv1 : x.lv ≤ 3
theorem be_at (i : Nat) {w : World} {g : Nat} {x : Wk} (h : IsWk w g x) (k : WOk x) (d : P.En) (f0 : 0 ≤ d.f) (f1 : d.f ≤ 4095) :
    Calls Tryz.prog (beF i) #[.pointer (some ⟨g, 0, none⟩), P.eV d] w fun e w' => e = .returned (.tuple #[]) ∧ IsWk w' g (beW i x d) ∧ But g g w w' := by
  match i with
  | 0 => exact findNone_at h d
  | 1 => exact goDown_at h d k.lv0 k.lv1
  | 2 => exact reachPart_at h d k.wt0 k.wt1 k.pg0 f0 f1
  | 3 => exact reach_at h d k.wt0 k.wt1
  | _ + 4 => exact findWrong_at h d
theorem kC_at (i : Nat) (h : i < 5) : kC[i * 2]? = some (.func (.func (isF i)) #[] #[]) ∧ kC[i * 2 + 1]? = some (.func (.func (beF i)) #[] #[]) := by
  match i, h with
  | 0, _ => exact ⟨rfl, rfl⟩
  | 1, _ => exact ⟨rfl, rfl⟩
  | 2, _ => exact ⟨rfl, rfl⟩
  | 3, _ => exact ⟨rfl, rfl⟩
  | 4, _ => exact ⟨rfl, rfl⟩
set_option maxHeartbeats 400000 in
theorem kinds_at (w : World) : Calls Tryz.prog 148 #[] w fun e w' => e = .returned (.slice (some ⟨w.heap.size, 0, none⟩) 5 5) ∧ w' = w.alloc (.cells kC 212) := by
  go_enter Tryz.func148, Tryz.ntmps148
  go_wp2
  go_ret
  exact ⟨rfl, rfl⟩
end Go.Proofs.YtpfmmlbakbhklaaGreatDoor
