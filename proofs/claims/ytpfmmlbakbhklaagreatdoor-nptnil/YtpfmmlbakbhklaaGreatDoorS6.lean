/- What a walker finds that goes on alone: a function of the words. Conditions: the words are below 2^64, the counts below 2^62. -/
import Derived.Test.YtpfmmlbakbhklaaGreatDoorS5
namespace Go.Proofs.YtpfmmlbakbhklaaGreatDoor
open Go.RowKit

theorem arr_v (d : P.En) (wt v f : Int) : (arr d wt v f).v = v := by unfold arr; split <;> rfl
theorem oc_v {xs : List Int} {fr pg wt v : Int} {d : Fd} (h : oc xs fr pg wt v = .fin d) : d.v = v := by
  unfold oc ocx at h
  split at h
  · unfold kn at h
    split at h
    · injection h with h; rw [← h]
    · split at h
      · cases h
      · split at h
        · injection h with h; rw [← h]; exact arr_v _ _ _ _
        · split at h
          · injection h with h; rw [← h]; exact arr_v _ _ _ _
          · injection h with h; rw [← h]
  · injection h with h; rw [← h]

/-- A walker that goes on, and what is to come of it. -/
structure Wi (xs : List Int) (r : Fd) (l : List Int) (x : Wk) : Prop where
  st : x.st = 1
  ok : WOk x
  ld : x.ld = 3 - x.lv
  run : runF xs x.pg x.wt x.lv.toNat x.fr = r
  path : pL x ++ pathF xs x.pg x.wt x.lv.toNat x.fr = l
  fd : x.fd = ⟨0, 0, 0, 0⟩
/-- One that is done. -/
structure Wd (r : Fd) (l : List Int) (x : Wk) : Prop where
  st : x.st = 2
  fd : x.fd = r
  path : pL x = l
  ld0 : 1 ≤ x.ld
  ld1 : x.ld ≤ 4
theorem Wi.ld0 {xs : List Int} {r : Fd} {l : List Int} {x : Wk} (h : Wi xs r l x) : 0 ≤ x.ld := by have := h.ld; have := h.ok.lv1; omega
theorem Wi.ld4 {xs : List Int} {r : Fd} {l : List Int} {x : Wk} (h : Wi xs r l x) : x.ld < 4 := by have := h.ld; have := h.ok.lv0; omega
theorem pL_put {x : Wk} (n : Nat) (hn : x.ld = n) (h4 : n < 4) : pL (putP x n) = pL x ++ [x.fr] ∧ (putP x n).ld = n + 1 := by
  unfold pL
  rw [hn]
  match n, h4 with
  | 0, _ => exact ⟨rfl, rfl⟩
  | 1, _ => exact ⟨rfl, rfl⟩
  | 2, _ => exact ⟨rfl, rfl⟩
  | 3, _ => exact ⟨rfl, rfl⟩
theorem putP_fd (x : Wk) (n : Nat) : (putP x n).fd = x.fd := by
  match n with
  | 0 => rfl
  | 1 => rfl
  | 2 => rfl
  | _ + 3 => rfl
theorem pL_end (y : Wk) (d : Fd) : pL (endW y d) = pL y := rfl
theorem pL_down (y : Wk) (f : Int) : pL (downW y f) = pL y := rfl
theorem Wi.step {xs : List Int} {r : Fd} {l : List Int} {x : Wk} (h : Wi xs r l x) : (Wi xs r l (stepW xs x) ∧ (stepW xs x).lv = x.lv - 1) ∨ Wd r l (stepW xs x) := by
  have hl0 := h.ok.lv0
  obtain ⟨n, hn⟩ := Int.eq_ofNat_of_zero_le hl0
  have hlt : x.lv.toNat = n := by omega
  have hrun := h.run
  have hpath := h.path
  rw [hlt] at hrun hpath
  obtain ⟨e0, e1, e2, e3, e4⟩ := putP_st x x.ld.toNat
  have hld : x.ld = (x.ld.toNat : Nat) := by have := h.ld0; omega
  obtain ⟨p1, p2⟩ := pL_put x.ld.toNat hld (by have := h.ld4; omega)
  unfold stepW
  rw [hn]
  cases ho : oc xs x.fr x.pg x.wt n with
  | fin d =>
    right
    refine ⟨rfl, ?_, ?_, ?_, ?_⟩
    · show ({ d with v := (putP x x.ld.toNat).lv } : Fd) = r
      rw [e4, hn, ← hrun, runF_fin ho]
      have := oc_v ho
      obtain ⟨a, b, c, e⟩ := d
      simp only at this
      rw [this]
    · show pL (endW _ d) = l
      rw [pL_end, p1, ← hpath, pathF_fin ho]
    · show 1 ≤ (putP x x.ld.toNat).ld
      rw [p2]; omega
    · show (putP x x.ld.toNat).ld ≤ 4
      rw [p2]; have := h.ld4; omega
  | go f =>
    left
    obtain ⟨g0, g1, g2⟩ := oc_go ho
    obtain ⟨m, rfl⟩ : ∃ m, n = m + 1 := ⟨n - 1, by omega⟩
    have hm : ((putP x x.ld.toNat).lv - 1).toNat = m := by rw [e4, hn]; omega
    refine ⟨⟨?_, ?_, ?_, ?_, ?_, ?_⟩, ?_⟩
    · exact e0.trans h.st
    · have k := h.ok.putP x.ld.toNat
      exact ⟨k.pg0, k.pg1, k.wt0, k.wt1, g1, g2, by show 0 ≤ (putP x x.ld.toNat).lv - 1; rw [e4, hn]; omega, by show (putP x x.ld.toNat).lv - 1 ≤ 3; have := k.lv1; omega⟩
    · show (putP x x.ld.toNat).ld = 3 - ((putP x x.ld.toNat).lv - 1)
      rw [p2, e4]; have := h.ld; omega
    · show runF xs (putP x x.ld.toNat).pg (putP x x.ld.toNat).wt ((putP x x.ld.toNat).lv - 1).toNat f = r
      rw [hm, e1, e2, ← hrun, runF_go ho]
    · show pL (downW _ f) ++ pathF xs (putP x x.ld.toNat).pg (putP x x.ld.toNat).wt ((putP x x.ld.toNat).lv - 1).toNat f = l
      rw [hm, e1, e2, pL_down, p1, ← hpath, pathF_go ho, List.append_assoc]
      rfl
    · exact (putP_fd x x.ld.toNat).trans h.fd
    · show (putP x x.ld.toNat).lv - 1 = _
      rw [e4, hn]
theorem Wi.new {xs : List Int} {root pg wt : Int} (h : okW root pg wt = true) : Wi xs (runF xs pg wt 3 root) (pathF xs pg wt 3 root) (newW root pg wt) := by
  unfold okW at h
  simp only [Bool.and_eq_true] at h
  have a := P.btw_yes.1 h.1.1
  have b := P.btw_yes.1 h.1.2
  have c := P.btw_yes.1 h.2
  exact ⟨rfl, ⟨b.1, b.2, c.1, c.2, a.1, a.2, by show (0 : Int) ≤ 3; decide, by show (3 : Int) ≤ 3; decide⟩, rfl, rfl, rfl, rfl⟩

/-- Some more loads were done. -/
structure Lds (s s' : St) (n : Nat) : Prop where
  xs : s'.xs = s.xs
  l : s'.l = s.l
  d0 : s.d ≤ s'.d
  d1 : s'.d ≤ s.d + n
theorem Lds.refl (s : St) : Lds s s 0 := ⟨rfl, rfl, Int.le_refl _, by omega⟩
theorem Lds.load {s s' : St} {n : Nat} (h : Lds s s' n) (a : Int) : Lds s (loadT s' a) (n + 1) := by
  have := h.d0
  have := h.d1
  unfold loadT
  split
  · exact ⟨h.xs, h.l, by show s.d ≤ s'.d + 1; omega, by show s'.d + 1 ≤ s.d + (n + 1 : Nat); omega⟩
  · exact ⟨h.xs, h.l, by omega, by omega⟩
theorem Lds.mono {s s' : St} {n m : Nat} (h : Lds s s' n) (k : n ≤ m) : Lds s s' m := ⟨h.xs, h.l, h.d0, by have := h.d1; omega⟩
theorem Lds.trans {s s' t : St} {n m : Nat} (h : Lds s s' n) (k : Lds s' t m) : Lds s t (n + m) := ⟨k.xs.trans h.xs, k.l.trans h.l, by have := h.d0; have := k.d0; omega, by have := h.d1; have := k.d1; omega⟩
theorem Lds.cnt {s s' : St} {n k : Nat} (h : Lds s s' n) (c : Cnt s k) : Cnt s' (k + n) := ⟨by have := c.d0; have := h.d0; omega, by have := c.d1; have := h.d1; omega, by rw [h.l]; exact c.l0, by rw [h.l]; have := c.l1; omega⟩
/-- A memory that was loaded from so often at most. -/
def Ml (t : TypeId) (w : World) (p b : Nat) (s : St) (n : Nat) : Prop := ∃ s', Mem t w p b s' ∧ Lds s s' n
def lvOf (g : Nat) (w : World) : Nat := match w.cell? ⟨g, 4, none⟩ with | some (.int _ n) => n.toNat | _ => 0
theorem four_off {w : World} {q k : Nat} (a b c d : Value) (o : Obj) (hk : k < w.heap.size) (h : k ≠ q) : (((((w.setCell ⟨q, 0, none⟩ a).setCell ⟨q, 1, none⟩ b).setCell ⟨q, 2, none⟩ c).setCell ⟨q, 3, none⟩ d).alloc o).heap[k]? = w.heap[k]? := by
  rw [Below.heap_alloc _ _ _ (by simpa [World.setCell] using hk), hoff h, hoff h, hoff h, hoff h]
theorem lvOf_eq {w : World} {g : Nat} {x : Wk} (h : IsWk w g x) : lvOf g w = x.lv.toNat := by unfold lvOf; rw [h.c4]

/-- A step of a walker that goes on, in whichever words. -/
theorem step_any {w : World} {p b g : Nat} {s : St} {x : Wk} {k : Nat} {r : Fd} {l : List Int} (h : Ws w p b g s x) (i : Wi s.xs r l x) (c : Cnt s k) (hk : k ≤ bnd) (u : U64 s.xs) :
    Calls Tryz.prog 62 #[.pointer (some ⟨g, 0, none⟩), .pointer (some ⟨p, 0, none⟩)] w fun e w' => ∃ s' y, (e = .returned (.bool (y.st == 2)) ∧ y = stepW s.xs x) ∧ Ws w' p b g s' y ∧ Lds s s' 1 ∧ But3 g p b w w' ∧ ((Wi s.xs r l y ∧ y.lv = x.lv - 1) ∨ Wd r l y) :=
  (step_go h i.ok i.st i.ld0 i.ld4 c hk u).mono fun _ _ ⟨a, b, d⟩ => ⟨_, _, ⟨a, rfl⟩, b, (Lds.refl s).load _, d, i.step⟩

set_option maxRecDepth 100000 in
set_option maxHeartbeats 1000000 in
theorem wall_yes {w : World} {p b : Nat} {s : St} {k : Nat} (h : Mem 124 w p b s) (c : Cnt s k) (hk : k + 4 ≤ bnd) (u : U64 s.xs) (root pg wt : Int) (ok : okW root pg wt = true) (l1 : -9223372036854775808 ≤ wt) (l2 : wt ≤ 9223372036854775807) :
    Calls Tryz.prog 25 #[.pointer (some ⟨p, 0, none⟩), .int .i64 root, .int .i64 pg, .int .i64 wt] w fun e w' => e = .returned (fdV (runF s.xs pg wt 3 root)) ∧ Ml 124 w' p b s 4 ∧ But p b w w' := by
  have HM := hid h
  have HC := hid c
  have HK := hid hk
  have HU := hid u
  have HI := hid (Wi.new (xs := s.xs) ok)
  have HN := hid (fun W => wnew_at W root pg wt l1 l2 ok)
  have hlt := h.lt
  have h3 : (newW root pg wt).lv.toNat = 3 := rfl
  clear h c hk u ok l1 l2
  generalize newW root pg wt = x0 at *
  generalize pathF s.xs pg wt 3 root = l at *
  generalize runF s.xs pg wt 3 root = r at *
  go_enter Tryz.func25, Tryz.ntmps25
  go_wp2_with fail
  refine (HN.out _).mono ?_
  rintro e w1 ⟨rfl, hw1⟩
  have m1 : Ws w1 p b (w.heap.size + 1) s x0 := by
    rw [hw1]
    refine ⟨(HM.out.below (below_alloc _ _)).below (below_alloc _ _), ?_, by omega, by omega⟩
    have := heap_alloc_new (w.alloc (.cells #[.int .i64 0, .int .i64 0, .int .i64 0, .int .i64 0] 54)) (.cells (wkC x0) 169 (0, 0))
    rw [World.size_alloc] at this
    exact this
  have m2 : w1.heap[w.heap.size]? = some (.cells #[.int .i64 0, .int .i64 0, .int .i64 0, .int .i64 0] 54 (0, 0)) := by
    rw [hw1]; exact P.hkeep (heap_alloc_new _ _) _
  have m3 : But p b w w1 := by rw [hw1]; exact (But.of_below (below_alloc _ _)).trans (But.of_below (below_alloc _ _))
  rw [show (w.alloc (.cells #[.int .i64 0, .int .i64 0, .int .i64 0, .int .i64 0] 54)).heap.size = w.heap.size + 1 by simp]
  have M1 := hid m1
  have M2 := hid m2
  have M3 := hid m3
  have hs := m3.size
  have hg : w.heap.size ≤ w.heap.size + 1 := Nat.le_succ _
  have hq : w.heap.size ≠ w.heap.size + 1 := by omega
  clear m1 m2 m3 hw1
  generalize w.heap.size + 1 = g at *
  go_wp2_with fail
  go_loopw [] (fun wr => ∃ s' x, Ws wr p b g s' x ∧ Wi s.xs r l x ∧ (∃ n : Nat, Lds s s' n ∧ n + x.lv.toNat = 3) ∧ wr.heap[w.heap.size]? = some (.cells #[.int .i64 0, .int .i64 0, .int .i64 0, .int .i64 0] 54 (0, 0)) ∧ But p b w wr) (fun wr => lvOf g wr)
  case atStart => exact ⟨s, x0, M1.out, HI.out, ⟨0, Lds.refl s, by rw [h3]⟩, M2.out, M3.out⟩
  case round =>
    obtain ⟨s', x, hW, hI, ⟨n, hL, hn⟩, hR, hB⟩ := hrel
    have hI' : Wi s'.xs r l x := by rw [hL.xs]; exact hI
    have HS := hid (step_any hW hI' (hL.cnt HC.out) (by have := HK.out; omega) (by rw [hL.xs]; exact HU.out))
    have hlv : lvOf g wr = x.lv.toNat := lvOf_eq hW.wk
    have hv0 := hI.ok.lv0
    have HL := hid hL
    have HR := hid hR
    have HB := hid hB
    have hwl := hW.wk.lt
    clear hW hI hI' hL hR hB
    go_wp2_with fail
    refine HS.out.mono ?_
    rintro e w2 ⟨s2, y, ⟨rfl, -⟩, h1, h2, b3, h4⟩
    have HX : Hid (s'.xs = s.xs) := hid HL.out.xs
    have HL2 : Hid (Lds s s2 (n + 1)) := hid (HL.out.trans h2)
    have hR2 : w2.heap[w.heap.size]? = some (.cells #[.int .i64 0, .int .i64 0, .int .i64 0, .int .i64 0] 54 (0, 0)) := (b3.block _ (lt_of_block HR.out) hq (by omega) (by omega)).trans HR.out
    have HR2 := hid hR2
    have HB2 := hid (But3.but HB.out b3 hg)
    have H1 := hid h1
    clear HS HL HR HB h2 b3 hR2
    rcases h4 with ⟨h4, h5⟩ | h4
    · have hb : (y.st == 2) = false := by rw [h4.st]; rfl
      have H4 := hid h4
      have hy0 := h4.ok.lv0
      have hlv2 : lvOf g w2 = y.lv.toNat := lvOf_eq h1.wk
      clear h4 h1
      go_wp2_with fail
      go_roundw
      case rel => exact ⟨s2, y, H1.out, by rw [HX.out] at H4; exact H4.out, ⟨n + 1, HL2.out, by omega⟩, HR2.out, HB2.out⟩
      case measure => rw [hlv2, hlv]; omega
    · have hb : (y.st == 2) = true := by rw [h4.st]; rfl
      have HF := hid (result_at h1.wk (.inr h4.st))
      rw [h4.fd, hb] at HF
      clear h4 h1
      go_wp2_with fail
      refine HF.out.mono ?_
      rintro e w3 ⟨rfl, b4⟩
      obtain ⟨rf, rr, rv, re⟩ := r
      simp only [ftwo]
      have hR3 := P.stay b4 HR2.out
      have c0 := cell_of (i := 0) hR3 rfl
      have c1 := cell_of (i := 1) hR3 rfl
      have c2 := cell_of (i := 2) hR3 rfl
      have c3 := cell_of (i := 3) hR3 rfl
      have f0 := free_of (i := 0) hR3
      have f1 := free_of (i := 1) hR3
      have f2 := free_of (i := 2) hR3
      have f3 := free_of (i := 3) hR3
      have hl3 := lt_of_block hR3
      have HR3 := hid hR3
      have HM3 : Hid (Ml 124 w3 p b s 4) := hid ⟨s2, H1.out.mem.below b4, HL2.out.mono (by omega)⟩
      have HB3 := hid (HB2.out.trans (But.of_below b4))
      clear hR3 b4 HF
      go_wp2
      (try simp only [Exit.inBlock, Exit.then])
      refine bodyPost_ret (results_cell_row rfl _ _ w.heap.size 54 _ (0, 0) _ rfl (P.hkeep (P.put4 HR3.out _ _ _ _) _) Tryz.underlying54 rfl size54) rfl ?_
      refine ⟨rfl, ?_, (((((HB3.out.fresh (Nat.le_refl _) _).fresh (Nat.le_refl _) _).fresh (Nat.le_refl _) _).fresh (Nat.le_refl _) _).trans (But.of_below (below_alloc _ _)))⟩
      obtain ⟨s3, hm, hd⟩ := HM3.out
      have := hm.lt
      exact ⟨s3, hm.keep (four_off _ _ _ _ _ (by omega) (by omega)) (four_off _ _ _ _ _ (by omega) (by omega)), hd⟩

set_option maxHeartbeats 400000 in
theorem wall_no (w : World) (q : Value) (root pg wt : Int) (ok : okW root pg wt = false) (l1 : -9223372036854775808 ≤ wt) (l2 : wt ≤ 9223372036854775807) :
    Calls Tryz.prog 25 #[q, .int .i64 root, .int .i64 pg, .int .i64 wt] w fun e w' => e = .returned (fdV ⟨0, 0, 0, 1⟩) ∧ Below w.heap.size w w' := by
  have HN := hid (fun W => wnew_no W root pg wt l1 l2 ok)
  clear ok l1 l2
  go_enter Tryz.func25, Tryz.ntmps25
  go_wp2_with fail
  refine (HN.out _).mono ?_
  rintro e w1 ⟨rfl, hw1⟩
  rw [hw1]
  clear hw1 w1 HN
  go_wp2
  (try simp only [Exit.inBlock, Exit.then])
  refine bodyPost_ret (results_cell_row rfl _ _ w.heap.size 54 _ (0, 0) _ rfl (heap_alloc_new _ _) Tryz.underlying54 rfl size54) rfl ?_
  exact ⟨rfl, below_alloc _ _⟩
theorem wall_at {w : World} {p b : Nat} {s : St} {k : Nat} (h : Mem 124 w p b s) (c : Cnt s k) (hk : k + 4 ≤ bnd) (u : U64 s.xs) (root pg wt : Int) (l1 : -9223372036854775808 ≤ wt) (l2 : wt ≤ 9223372036854775807) :
    Calls Tryz.prog 25 #[.pointer (some ⟨p, 0, none⟩), .int .i64 root, .int .i64 pg, .int .i64 wt] w fun e w' => e = .returned (fdV (fAll s.xs root pg wt)) ∧ Ml 124 w' p b s 4 ∧ But p b w w' := by
  unfold fAll
  cases ok : okW root pg wt
  · refine (wall_no w _ root pg wt ok l1 l2).mono fun e w' ⟨a, d⟩ => ⟨a.trans (by rw [if_neg (by simp)]), ⟨s, h.below d, (Lds.refl s).mono (by omega)⟩, But.of_below d⟩
  · rw [if_pos rfl]
    exact wall_yes h c hk u root pg wt ok l1 l2
end Go.Proofs.YtpfmmlbakbhklaaGreatDoor
