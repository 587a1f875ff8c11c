/- A step of the document's walker: the same function of the words as the program's. Conditions: it is a walker that goes on; the words are below 2^64, the counts below 2^62. -/
import Derived.Test.YtfpekfpjoldinaaR2
import Derived.Test.YtfpekfpjoldinaaB
import Derived.Deep.RegionLaw
import Derived.Deep.CutRange
namespace Go.Proofs.Ytfpekfpjoldinaa
open Go.RowKit

theorem own_keep {w w' : World} {base n : Nat} {e : TypeId} {s : Nat} {v : Value} {xs : List Value} (h : w.ownsRow base e s v n xs) (hk : ∀ k, base ≤ k → k < w.heap.size → w'.heap[k]? = w.heap[k]?) : w'.ownsRow base e s v n xs := by
  obtain ⟨h1, h2 | ⟨g, cap, cur, a, b, c, d⟩⟩ := h
  · exact ⟨h1, .inl h2⟩
  · exact ⟨h1, .inr ⟨g, cap, cur, a, b, (hk g b (lt_of_block c)).trans c, d⟩⟩

theorem infoI3 : ∃ i, Try.prog.info? 3 = some i ∧ i.zero = some (.int .i64 0) ∧ i.size = 1 ∧ i.bytes = 8 := by
  have h := info3
  cases hi : Try.prog.info? 3 with
  | none => rw [hi] at h; cases h
  | some i =>
    rw [hi] at h
    simp only [Option.map_some, Option.some.injEq, Prod.mk.injEq] at h
    exact ⟨i, rfl, h.1, h.2.1, h.2.2⟩
/-- The blocks below n are as they were, but for q and c. -/
structure RB (n q c : Nat) (w w' : World) : Prop where
  os : w'.os = w.os
  tape : w'.tape = w.tape
  output : w'.output = w.output
  size : w.heap.size ≤ w'.heap.size
  block : ∀ k, k < n → k ≠ q → k ≠ c → w'.heap[k]? = w.heap[k]?
theorem RB.trans {n q c : Nat} {x y z : World} (h : RB n q c x y) (k : RB n q c y z) : RB n q c x z :=
  ⟨k.os.trans h.os, k.tape.trans h.tape, k.output.trans h.output, Nat.le_trans h.size k.size, fun i hi a b => (k.block i hi a b).trans (h.block i hi a b)⟩
theorem RB.of_but {n q c : Nat} {w w' : World} (h : But q c w w') (hn : n ≤ w.heap.size) : RB n q c w w' :=
  ⟨h.os, h.tape, h.output, h.size, fun k hk a b => h.block k (by omega) a b⟩
theorem RB.of_one {n q c : Nat} {w w' : World} (h : But n n w w') (hn : n ≤ w.heap.size) : RB n q c w w' :=
  ⟨h.os, h.tape, h.output, h.size, fun k hk _ _ => h.block k (by omega) (by omega) (by omega)⟩
theorem RB.of_below {n q c : Nat} {w w' : World} (h : Below w.heap.size w w') (hn : n ≤ w.heap.size) : RB n q c w w' :=
  ⟨h.os, h.tape, h.output, h.size, fun k hk _ _ => h.block k (by omega)⟩

/-- The document's walker, and the tables so far in blocks behind its own. -/
def Rw (w : World) (g : Nat) (y : Wr) (n : Nat) : Prop := ∃ pv vals, IsR w g y pv ∧ w.ownsRow (g + 1) 3 1 pv n vals

theorem RB.of_grown {n q c : Nat} {w w' : World} {row : Option Nat} (h : w.grownBy w' row) (hn : n ≤ w.heap.size) (hr : ∀ x, row = some x → n ≤ x) : RB n q c w w' :=
  ⟨h.os, h.tape, h.output, h.size, fun k hk _ _ => h.block k (by omega) (fun e => by have := hr k e.symm; omega)⟩
/-- What is found out of what was loaded. -/
def fR (o : Oc) (y : Wr) : Wr := match o with | .go f => { y with f := f, lv := y.lv - 1 } | .fin d => finR y d
def stepR (xs : List Int) (y : Wr) : Wr := fR (oc xs y.f y.pg y.wt y.lv) y
/-- A walker of the document's that goes on: the numbers in it, and what they are below. -/
structure ROk (y : Wr) : Prop where
  pg0 : 0 ≤ y.pg
  pg1 : y.pg ≤ 65535
  f0 : 0 ≤ y.f
  f1 : y.f ≤ 4095
  lv0 : 0 ≤ y.lv
  lv1 : y.lv ≤ 3
abbrev Sl (g : Nat) (f pg lv : Int) (w' : World) : Prop := w'.cell? ⟨g, 0, none⟩ = some (.int .i64 f) ∧ w'.cell? ⟨g, 1, none⟩ = some (.int .i64 pg) ∧ w'.cell? ⟨g, 3, none⟩ = some (.int .i64 lv)
theorem Sl.of {w : World} {g : Nat} {y : Wr} {pv : Value} (h : IsR w g y pv) : Sl g y.f y.pg y.lv w := ⟨h.c0, h.c1, h.c3⟩

theorem kn0 {d : P.En} {pg wt v : Int} (h : d.p = false) : kn d pg wt v = .fin ⟨0, 0, v, 4⟩ := by
  unfold kn; rw [if_pos (by rw [h]; rfl)]
theorem kn1 {d : P.En} {pg wt v : Int} (h : d.p = true) (h1 : P.tb d = true) (h2 : 0 < v) : kn d pg wt v = .go d.f := by
  unfold kn; rw [if_neg (by rw [h]; simp), if_pos (by rw [h1, decide_eq_true h2]; rfl)]
theorem kn2 {d : P.En} {pg wt v : Int} (h : d.p = true) (h1 : P.tb d = false) (h2 : d.l = true) (h3 : v = 1) : kn d pg wt v = .fin (arr d wt v (d.f + pg % 16)) := by
  unfold kn; rw [if_neg (by rw [h]; simp), if_neg (by rw [h1]; simp), if_pos (by rw [h2, h3]; rfl)]
theorem kn3 {d : P.En} {pg wt v : Int} (h : d.p = true) (h1 : P.tb d = false) (h2 : d.l = false) (h3 : v = 0) : kn d pg wt v = .fin (arr d wt v d.f) := by
  unfold kn; rw [if_neg (by rw [h]; simp), if_neg (by rw [h1]; simp), if_neg (by rw [h2]; simp), if_pos (by rw [h1, h2, h3]; rfl)]
theorem kn4 {d : P.En} {pg wt v : Int} (h : d.p = true) (h1 : (P.tb d && decide (0 < v)) = false) (h2 : (d.l && v == 1) = false) (h3 : (!P.tb d && !d.l && v == 0) = false) : kn d pg wt v = .fin ⟨0, 0, v, 11⟩ := by
  unfold kn; rw [if_neg (by rw [h]; simp), if_neg (by rw [h1]; simp), if_neg (by rw [h2]; simp), if_neg (by rw [h3]; simp)]

set_option maxRecDepth 100000 in
set_option maxHeartbeats 4000000 in
theorem rstep_go {w : World} {g q c k : Nat} {y : Wr} {pv : Value} {vals : List Value} {n : Nat} {t : St} (h : IsR w g y pv) (ho : w.ownsRow (g + 1) 3 1 pv n vals) (hn : n ≤ 3) (hd : y.dn = false) (ok : ROk y)
    (m : Mem 85 w q c t) (cn : Cnt t k) (hk : k ≤ bnd) (u : U64 t.xs) (hq : q < g) (hc : c < g) :
    Calls Try.prog 27 #[.pointer (some ⟨g, 0, none⟩), .pointer (some ⟨q, 0, none⟩)] w fun e w' => e = .returned (.bool (stepR t.xs y).dn) ∧ Rw w' g (stepR t.xs y) (n + 1) ∧ Mem 85 w' q c (loadT t (P.at' y.f y.pg y.lv)) ∧ RB g q c w w' := by
  have hl := h.lt
  have c0 := h.c0
  have c4 := h.c4
  have c9 := h.c9
  have f9 := h.free 9
  rw [hd] at c4
  obtain ⟨i3, hi, hz0, hz1, hz2⟩ := infoI3
  have hoff : ∀ x, pv.ownBlock = some x → g + 1 ≤ x := fun x e => (ho.lt x e).1
  -- the word that is loaded, and what is to come of it
  obtain ⟨v, hv, hv'⟩ := u.at (P.at' y.f y.pg y.lv)
  have e0 : (errV t (P.at' y.f y.pg y.lv) == 0) = inB t.xs.length (P.at' y.f y.pg y.lv) := by
    unfold errV there
    cases inB t.xs.length (P.at' y.f y.pg y.lv) <;> rfl
  have e1 : loadV t (P.at' y.f y.pg y.lv) = v := by rw [← hv]; rfl
  have HZ : Hid (fR (ocx (errV t (P.at' y.f y.pg y.lv) == 0) v y.pg y.wt y.lv) y = stepR t.xs y) := hid (by rw [e0, ← hv]; rfl)
  have HA := hid (fun W => P.rplace_at y.f y.pg y.lv W)
  have HLd : Hid (∀ W, Mem 85 W q c t → Calls Try.prog 37 #[.pointer (some ⟨q, 0, none⟩), .int .i64 (P.at' y.f y.pg y.lv)] W fun e w'' => e = .returned (.tuple #[.int .u64 v, .int .i64 (errV t (P.at' y.f y.pg y.lv))]) ∧ Turns 85 q c W w'' (loadT t (P.at' y.f y.pg y.lv))) := hid (fun W hm => by
    have := rload_any hm cn hk (P.at' y.f y.pg y.lv)
    rw [e1] at this
    exact this)
  clear e0 e1 hv u cn hk
  generalize stepR t.xs y = z at *
  generalize loadT t (P.at' y.f y.pg y.lv) = t' at *
  generalize errV t (P.at' y.f y.pg y.lv) = er at *
  generalize P.at' y.f y.pg y.lv = at0 at *
  -- what is written down
  have HX := hid h
  have HO := hid ho
  have HM0 := hid m
  have hown1 := own_keep (w' := (w.alloc (.cells #[.int .i64 y.f] 3)).drew) ho (fun k _ hk => Below.heap_alloc _ _ _ hk)
  have hnew1 : ∀ j u, [(Value.int .i64 y.f)][j]? = some u → (w.alloc (.cells #[.int .i64 y.f] 3)).drew.cell? ((⟨w.heap.size, 0, none⟩ : Addr).add j) = some u := World.news_of_block (cs := #[.int .i64 y.f]) (t := 3) (fr := (0, 0)) (P.stay ((Below.refl _ _).drew) (heap_alloc_new _ _))
  have h1c : ∀ u ∈ [(Value.int .i64 y.f)], u.oneCell' = true := by intro u hu; simp at hu; subst hu; rfl
  have hb63 : n + 1 ≤ maxLen := by unfold maxLen; omega
  have hbyt : (n + 1) * 8 ≤ 140737488355328 := by omega
  have hbase : g + 1 ≤ (w.alloc (.cells #[.int .i64 y.f] 3)).drew.heap.size := by simp; omega
  have hG : ∀ w6, World.grownBy (w.alloc (.cells #[.int .i64 y.f] 3)).drew w6 pv.ownBlock → IsR w6 g y pv := fun w6 k => (k.block g (by simp; omega) (fun e => by have := hoff g e.symm; omega)).trans (h.below (((Below.refl _ _).alloc (Nat.le_refl _) _).drew))
  have hGL := hid (fun w6 k => (hG w6 k).lt)
  have hG9 := hid (fun w6 k => (hG w6 k).c9)
  have hF9 := hid (fun w6 k => (hG w6 k).free 9)
  have HP9 : Hid (∀ w6 g6 cap6, World.grownBy (w.alloc (.cells #[.int .i64 y.f] 3)).drew w6 pv.ownBlock → w6.ownsRow (g + 1) 3 1 (.slice (some ⟨g6, 0, none⟩) (n + 1) cap6) (n + 1) (vals ++ [.int .i64 y.f]) →
      ∃ pv', IsR (w6.setCell ⟨g, 9, none⟩ (.slice (some ⟨g6, 0, none⟩) (n + 1) cap6)) g y pv' ∧ (w6.setCell ⟨g, 9, none⟩ (.slice (some ⟨g6, 0, none⟩) (n + 1) cap6)).ownsRow (g + 1) 3 1 pv' (n + 1) (vals ++ [.int .i64 y.f]) ∧ Mem 85 (w6.setCell ⟨g, 9, none⟩ (.slice (some ⟨g6, 0, none⟩) (n + 1) cap6)) q c t ∧ RB g q c w (w6.setCell ⟨g, 9, none⟩ (.slice (some ⟨g6, 0, none⟩) (n + 1) cap6)) ∧ g < (w6.setCell ⟨g, 9, none⟩ (.slice (some ⟨g6, 0, none⟩) (n + 1) cap6)).heap.size) := hid (fun w6 g6 cap6 k own => by
    have hB : Below w.heap.size w (w.alloc (.cells #[.int .i64 y.f] 3)).drew := ((Below.refl _ _).alloc (Nat.le_refl _) _).drew
    have h6 := hG w6 k
    have r1 : RB g q c w w6 := (RB.of_below hB (Nat.le_of_lt hl)).trans (RB.of_grown k (by simp; omega) (fun x e => by have := hoff x e; omega))
    have r2 : But g g w6 (w6.setCell ⟨g, 9, none⟩ (.slice (some ⟨g6, 0, none⟩) (n + 1) cap6)) := (But.refl g g w6).own _
    have m1 := m.below hB
    have m6 : Mem 85 w6 q c t := m1.keep (k.block q (by simp; omega) (fun e => by have := hoff q e.symm; omega)) (k.block c (by simp; omega) (fun e => by have := hoff c e.symm; omega))
    refine ⟨_, heap_setCell_self h6 _, own_keep own (fun k hk hk' => r2.block k hk' (by omega) (by omega)), m6.but r2 (by omega) (by omega) (by omega) (by omega), r1.trans (RB.of_one r2 (Nat.le_of_lt h6.lt)), ?_⟩
    have := r2.size
    have := h6.lt
    omega)
  clear hG h ho m
  have hS : Hid (∀ W pv', IsR W g y pv' → Sl g y.f y.pg y.lv W) := hid (fun W pv' hx => Sl.of hx)
  obtain ⟨yf, pg, wt, lv, dn, fd⟩ := y
  simp only at *
  subst hd
  go_enter Try.func27, Try.ntmps27
  go_upto_region 3 with fail
  go_cut [] from 13 to 25 (fun wx => ∃ pv', IsR wx g ⟨yf, pg, wt, lv, false, fd⟩ pv' ∧ wx.ownsRow (g + 1) 3 1 pv' (n + 1) (vals ++ [.int .i64 yf]) ∧ Mem 85 wx q c t ∧ RB g q c w wx ∧ g < wx.heap.size)
  case first =>
    go_region_law (refine step_append_lies _ (by rfl) _ _ 48 (by rfl) (g + 1) 3 i3 (.int .i64 0) 1 8 Try.underlying48 hi hz0 hz1 hz2 rfl (by decide) _ n _ (by rfl) hown1 ⟨w.heap.size, 0, none⟩ 1 1 [.int .i64 yf] (by rfl) rfl hnew1 h1c (by decide) hb63 hbyt hbase _ rfl ?_; intro g6 cap6 w6 hown6 hgrow6 hat6 hlt6; have hl6 := hGL.out w6 hgrow6; have c9' := hG9.out w6 hgrow6; have f9' := hF9.out w6 hgrow6)
    all_goals
      have HQ := hid (HP9.out w6 g6 cap6 hgrow6 hown6)
      clear hgrow6 hown6 hat6 hlt6 c9' f9' hl6
      go_wp2_with fail
      go_meet
      case rel => exact HQ.out
  case rest =>
    obtain ⟨pv', hR, hown, hM, hRB, hg3⟩ := hcut
    clear hnew1 h1c hb63 hbyt hbase hown1 hGL hG9 hF9 HP9 HM0 HO HX c0 c4 c9 f9 hi hz0 hz1 hz2 hoff
    have hR4 := hid (hR.below (Below.refl _ _).drew)
    have hM4 := hid (hM.below (Below.refl _ _).drew)
    have hB4 : Hid (∀ k, g + 1 ≤ k → k < wc.heap.size → wc.drew.heap[k]? = wc.heap[k]?) := hid (fun k _ _ => rfl)
    have hRB4 : Hid (RB g q c w wc.drew) := hid (hRB.trans (RB.of_below (Below.refl _ _).drew (Nat.le_of_lt hg3)))
    have hO4 : Hid (wc.drew.ownsRow (g + 1) 3 1 pv' (n + 1) (vals ++ [.int .i64 yf])) := hid hown
    have hS0 := hS.out _ _ hR4.out
    clear hR hown hM hRB hB4
    go_wp2_with fail
    go_region_held3 (fun w' => w'.cell? ⟨g, 0, none⟩ = some (.int .i64 yf) ∧ w'.cell? ⟨g, 1, none⟩ = some (.int .i64 pg) ∧ w'.cell? ⟨g, 3, none⟩ = some (.int .i64 lv)) (first | with_reducible exact hS0 | with_reducible assumption)
      (first
        | (go_at_call 18; refine (HA.out _).mono ?_; rintro e v5 ⟨rfl, hB5⟩; have hR5 := hid (hR4.out.below hB5); have hM5 := hid (hM4.out.below hB5); have hS5 := hS.out _ _ hR5.out; have HB5 := hid hB5; clear hB5)
        | (go_at_call 37; refine (HLd.out _ hM5.out).mono ?_; rintro e v6 ⟨rfl, hT6⟩; have hR6 := hid (hR5.out.but hT6.2 (by omega) (by omega)); have hS6 := hS.out _ _ hR6.out; have HT6 := hid hT6; clear hT6))
    rename_i hHeld
    clear hHeld hS0 hS5 hS6
    have hO6 : Hid (v6.ownsRow (g + 1) 3 1 pv' (n + 1) (vals ++ [.int .i64 yf])) := hid (own_keep (own_keep hO4.out (fun k _ hk => HB5.out.block k hk)) (fun k hk hk' => HT6.out.2.block k hk' (by omega) (by omega)))
    have hRB6 : Hid (RB g q c w v6) := hid ((hRB4.out.trans (RB.of_below HB5.out (Nat.le_of_lt hR4.out.lt))).trans (RB.of_but HT6.out.2 (Nat.le_of_lt hR5.out.lt)))
    have hM6 := hid HT6.out.1
    clear hR4 hM4 hRB4 hO4 hR5 hM5 HB5 HT6 hS HLd HA hg3
    obtain ⟨D, hD⟩ : ∃ D, P.prD v = D := ⟨_, rfl⟩
    obtain ⟨bb, hY⟩ : ∃ b, P.prY v = b := ⟨_, rfl⟩
    have HP := hid (P.rparse_at v hv' v6)
    rw [hD, hY] at HP
    have HD := hid hD
    have HY := hid hY
    clear hD hY
    obtain ⟨dp, dr, dl, df⟩ := D
    go_wp2_with fail
    refine HP.out.mono ?_
    rintro e w7 ⟨rfl, hB7⟩
    have R7 := hid (hR6.out.below hB7)
    have hg7 : g < w7.heap.size := R7.out.lt
    have FIN : Hid (∀ w' y', IsR w' g y' pv' → But g g w7 w' → Rw w' g y' (n + 1) ∧ Mem 85 w' q c t' ∧ RB g q c w w') := hid (fun w' y' h1 h2 => by
      have o7 := own_keep hO6.out (fun k _ hk => hB7.block k hk)
      exact ⟨⟨pv', _, h1, own_keep o7 (fun k hk hk' => h2.block k hk' (by omega) (by omega))⟩, (hM6.out.below hB7).but h2 (by omega) (by omega) (by omega) (by omega), (hRB6.out.trans (RB.of_below hB7 (Nat.le_of_lt hR6.out.lt))).trans (RB.of_one h2 (Nat.le_of_lt hg7))⟩)
    clear hB7 hR6 hO6 hRB6 hM6 HP
    simp only [P.ptwo, P.eV]
    cases hE : er == 0
    · have hz : z = finR ⟨yf, pg, wt, lv, false, fd⟩ ⟨0, 0, lv, 11⟩ := by
        rw [← HZ.out]
        unfold ocx
        rw [if_neg (by rw [hE]; simp)]
        rfl
      subst hz
      have he : (er != 0) = true := by simp [bne, hE]
      clear HZ hE
      cases bb
      all_goals
        go_wp2_with fail
        refine (rend_at (R7.out.below (below_alloc _ _)) 11).mono ?_
        rintro e w9 ⟨rfl, h1, h2⟩
        have c4 := h1.c4
        have H1 := hid h1
        have H2 := hid ((But.of_below (below_alloc _ _)).trans h2)
        clear h1 h2
        go_wp2
        go_ret
        exact ⟨rfl, FIN.out _ _ H1.out H2.out⟩
    · have h0 : er = 0 := by simpa using hE
      subst h0
      cases bb
      · have hz : z = finR ⟨yf, pg, wt, lv, false, fd⟩ ⟨0, 0, lv, 11⟩ := by
          rw [← HZ.out]
          unfold ocx
          rw [Int.toNat_natCast, if_neg (by rw [HY.out]; simp)]
          rfl
        subst hz
        clear HZ hE
        go_wp2_with fail
        refine (rend_at (R7.out.below (below_alloc _ _)) 11).mono ?_
        rintro e w9 ⟨rfl, h1, h2⟩
        have c4 := h1.c4
        have H1 := hid h1
        have H2 := hid ((But.of_below (below_alloc _ _)).trans h2)
        clear h1 h2
        go_wp2
        go_ret
        exact ⟨rfl, FIN.out _ _ H1.out H2.out⟩
      · have hrd : P.rd v = ⟨dp, dr, dl, df⟩ := (prD_rd HY.out).symm.trans HD.out
        have hr := P.rt_in (prY_rt HY.out)
        rw [hrd] at hr
        have KZ : Hid (fR (kn ⟨dp, dr, dl, df⟩ pg wt lv) ⟨yf, pg, wt, lv, false, fd⟩ = z) := hid (by
          rw [← HZ.out]
          unfold ocx
          rw [Int.toNat_natCast, HY.out, if_pos (show ((0 : Int) == 0 && true) = true from rfl), hrd])
        simp only at hr
        clear HZ hE HD HY hrd
        cases dp
        · have hz : z = finR ⟨yf, pg, wt, lv, false, fd⟩ ⟨0, 0, lv, 4⟩ := by rw [← KZ.out, kn0 rfl]; rfl
          subst hz
          clear KZ
          go_wp2_with fail
          refine (rend_at (R7.out.below (below_alloc _ _)) 4).mono ?_
          rintro e w9 ⟨rfl, h1, h2⟩
          have c4 := h1.c4
          have H1 := hid h1
          have H2 := hid ((But.of_below (below_alloc _ _)).trans h2)
          clear h1 h2
          go_wp2
          go_ret
          exact ⟨rfl, FIN.out _ _ H1.out H2.out⟩
        · obtain ⟨tt, htt⟩ : ∃ b, P.tb ⟨true, dr, dl, df⟩ = b := ⟨_, rfl⟩
          have HT := hid htt
          clear htt
          go_wp2_with fail
          refine (P.bl_at (P.rtable_at ⟨true, dr, dl, df⟩ _) HT.out).mono ?_
          rintro e w8 ⟨rfl, hB8⟩
          have A8 := hid (P.stay hB8 (heap_alloc_new w7 _))
          have R8 := hid ((R7.out.below (below_alloc _ _)).below hB8)
          have B8 := hid ((But.of_below (p := g) (b := g) (below_alloc w7 _)).trans (But.of_below hB8))
          clear hB8
          have le := lt_of_block A8.out
          have e0 := cell_of (i := 0) A8.out rfl
          have e1 := cell_of (i := 1) A8.out rfl
          have e2 := cell_of (i := 2) A8.out rfl
          have e3 := cell_of (i := 3) A8.out rfl
          have c1 := R8.out.c1
          have c3 := R8.out.c3
          have lv0 := ok.lv0
          have lv1 := ok.lv1
          simp only at lv0 lv1
          cases tt
          · cases dl
            · by_cases h0 : lv = 0
              · have hb0 : (lv == 0) = true := by simp [h0]
                have hz : z = finR ⟨yf, pg, wt, lv, false, fd⟩ (arr ⟨true, dr, false, df⟩ wt lv df) := by rw [← KZ.out, kn3 rfl HT.out rfl h0]; rfl
                subst hz
                clear KZ
                go_wp2_with fail
                refine (P.bl_at (P.rtable_at ⟨true, dr, false, df⟩ _) HT.out).mono ?_
                rintro e w10 ⟨rfl, hB8⟩
                have A8n := hid (P.stay hB8 A8.out)
                have R8n := hid (R8.out.below hB8)
                have B8n := hid (B8.out.trans (But.of_below hB8))
                clear A8 R8 B8 e0 e1 e2 e3 le c1 c3
                have A8 := A8n
                have R8 := R8n
                have B8 := B8n
                clear A8n R8n B8n
                clear hB8
                have le := lt_of_block A8.out
                have e0 := cell_of (i := 0) A8.out rfl
                have e1 := cell_of (i := 1) A8.out rfl
                have e2 := cell_of (i := 2) A8.out rfl
                have e3 := cell_of (i := 3) A8.out rfl
                have c1 := R8.out.c1
                have c3 := R8.out.c3
                go_wp2_with fail
                refine (rin_at R8.out ⟨true, dr, false, df⟩ df).mono ?_
                rintro e w9 ⟨rfl, h1, h2⟩
                have c4 := h1.c4
                have H1 := hid h1
                have H2 := hid (B8.out.trans h2)
                clear h1 h2
                go_wp2
                go_ret
                exact ⟨rfl, FIN.out _ _ H1.out H2.out⟩
              · have hb0 : (lv == 0) = false := by simp [h0]
                have hz : z = finR ⟨yf, pg, wt, lv, false, fd⟩ ⟨0, 0, lv, 11⟩ := by
                  rw [← KZ.out, kn4 rfl (by rw [HT.out]; simp [*]) (by simp [*]) (by rw [HT.out]; simp [*])]; rfl
                subst hz
                clear KZ
                go_wp2_with fail
                refine (P.bl_at (P.rtable_at ⟨true, dr, false, df⟩ _) HT.out).mono ?_
                rintro e w10 ⟨rfl, hB8⟩
                have A8n := hid (P.stay hB8 A8.out)
                have R8n := hid (R8.out.below hB8)
                have B8n := hid (B8.out.trans (But.of_below hB8))
                clear A8 R8 B8 e0 e1 e2 e3 le c1 c3
                have A8 := A8n
                have R8 := R8n
                have B8 := B8n
                clear A8n R8n B8n
                clear hB8
                have le := lt_of_block A8.out
                have e0 := cell_of (i := 0) A8.out rfl
                have e1 := cell_of (i := 1) A8.out rfl
                have e2 := cell_of (i := 2) A8.out rfl
                have e3 := cell_of (i := 3) A8.out rfl
                have c1 := R8.out.c1
                have c3 := R8.out.c3
                go_wp2_with fail
                refine (rend_at (R8.out) 11).mono ?_
                rintro e w9 ⟨rfl, h1, h2⟩
                have c4 := h1.c4
                have H1 := hid h1
                have H2 := hid ((B8.out).trans h2)
                clear h1 h2
                go_wp2
                go_ret
                exact ⟨rfl, FIN.out _ _ H1.out H2.out⟩
            · by_cases h1 : lv = 1
              · have hb1 : (lv == 1) = true := by simp [h1]
                have hz : z = finR ⟨yf, pg, wt, lv, false, fd⟩ (arr ⟨true, dr, true, df⟩ wt lv (df + pg % 16)) := by rw [← KZ.out, kn2 rfl HT.out rfl h1]; rfl
                subst hz
                clear KZ
                have pg0 := ok.pg0
                simp only at pg0
                have q1 := tmod16 pg0
                have q2 : IntKind.i64.wrap (pg % 16) = pg % 16 := i64w (by omega) (by omega)
                have q3 : IntKind.i64.wrap (df + pg % 16) = df + pg % 16 := i64w (by omega) (by omega)
                have HA9 := hid (rin_at (R8.out.below (Below.refl _ _).drew) ⟨true, dr, true, df⟩ (df + pg % 16))
                have hbx := P.stay ((Below.refl _ w8).drew) A8.out
                have hne : w7.heap.size ≠ g := by omega
                have hS0 : Sp g w7.heap.size true dr true df pg w8.drew := ⟨cell_of hbx rfl, cell_of hbx rfl, cell_of hbx rfl, cell_of hbx rfl, (R8.out.below (Below.refl _ _).drew).c1⟩
                have HH := hid (HA9.out.mono (R' := fun e w' => e = .returned (.tuple #[]) ∧ Hid (IsR w' g (finR ⟨yf, pg, wt, lv, false, fd⟩ (arr ⟨true, dr, true, df⟩ wt lv (df + pg % 16))) pv' ∧ But g g w8 w') ∧ Sp g w7.heap.size true dr true df pg w') fun e w' ⟨a, b, c⟩ =>
                  have hb' := (c.block _ (lt_of_block hbx) hne hne).trans hbx
                  ⟨a, hid ⟨b, (But.of_below (Below.refl _ _).drew).trans c⟩, cell_of hb' rfl, cell_of hb' rfl, cell_of hb' rfl, cell_of hb' rfl, b.c1⟩)
                clear HA9 hbx
                simp only [Sp] at hS0 HH
                go_wp2_with fail
                go_region_held3 (fun w' => w'.cell? ⟨w7.heap.size, 0, none⟩ = some (.bool true) ∧ w'.cell? ⟨w7.heap.size, 1, none⟩ = some (.int .i64 dr) ∧ w'.cell? ⟨w7.heap.size, 2, none⟩ = some (.bool true) ∧ w'.cell? ⟨w7.heap.size, 3, none⟩ = some (.int .i64 df) ∧ w'.cell? ⟨g, 1, none⟩ = some (.int .i64 pg)) (first | with_reducible exact hS0 | with_reducible assumption)
                  (first
                    | (go_at_call 41; refine HH.out.mono ?_; rintro e w9 ⟨rfl, hm9, hs9⟩))
                rename_i hHeld
                clear hHeld hs9 hS0 e0 e1 e2 e3 le c1 c3
                have c4 := hm9.out.1.c4
                have H2 := hid (B8.out.trans hm9.out.2)
                go_wp2
                go_ret
                exact ⟨rfl, FIN.out _ _ hm9.out.1 H2.out⟩
              · have hb1 : (lv == 1) = false := by simp [h1]
                have hz : z = finR ⟨yf, pg, wt, lv, false, fd⟩ ⟨0, 0, lv, 11⟩ := by
                  rw [← KZ.out, kn4 rfl (by rw [HT.out]; simp [*]) (by simp [*]) (by rw [HT.out]; simp [*])]; rfl
                subst hz
                clear KZ
                go_wp2_with fail
                refine (rend_at (R8.out) 11).mono ?_
                rintro e w9 ⟨rfl, h1, h2⟩
                have c4 := h1.c4
                have H1 := hid h1
                have H2 := hid ((B8.out).trans h2)
                clear h1 h2
                go_wp2
                go_ret
                exact ⟨rfl, FIN.out _ _ H1.out H2.out⟩
          · by_cases h0 : 0 < lv
            · have hz : z = ⟨df, pg, wt, lv - 1, false, fd⟩ := by rw [← KZ.out, kn1 rfl HT.out h0]; rfl
              subst hz
              clear KZ
              have hwl : IntKind.i64.wrap (lv - 1) = lv - 1 := i64w (by omega) (by omega)
              have c0 := R8.out.c0
              have f0 := R8.out.free 0
              have f3 := R8.out.free 3
              have c4 := R8.out.c4
              have hg8 := R8.out.lt
              have hne : g ≠ w7.heap.size := by omega
              have hne2 : w7.heap.size ≠ g := by omega
              go_wp2
              go_ret
              refine ⟨rfl, FIN.out _ _ ?_ (B8.out.trans (((But.refl g g w8).own _).own _))⟩
              exact heap_setCell_self (heap_setCell_self R8.out _) _
            · have hl0 : lv = 0 := by omega
              have hb0 : (lv == 0) = true := by simp [hl0]
              have hb1 : (lv == 1) = false := by simp [hl0]
              cases dl
              · skip
                have hz : z = finR ⟨yf, pg, wt, lv, false, fd⟩ ⟨0, 0, lv, 11⟩ := by
                  rw [← KZ.out, kn4 rfl (by rw [HT.out]; simp [*]) (by simp [*]) (by rw [HT.out]; simp [*])]; rfl
                subst hz
                clear KZ
                go_wp2_with fail
                refine (P.bl_at (P.rtable_at ⟨true, dr, false, df⟩ _) HT.out).mono ?_
                rintro e w10 ⟨rfl, hB8⟩
                have A8n := hid (P.stay hB8 A8.out)
                have R8n := hid (R8.out.below hB8)
                have B8n := hid (B8.out.trans (But.of_below hB8))
                clear A8 R8 B8 e0 e1 e2 e3 le c1 c3
                have A8 := A8n
                have R8 := R8n
                have B8 := B8n
                clear A8n R8n B8n
                clear hB8
                have le := lt_of_block A8.out
                have e0 := cell_of (i := 0) A8.out rfl
                have e1 := cell_of (i := 1) A8.out rfl
                have e2 := cell_of (i := 2) A8.out rfl
                have e3 := cell_of (i := 3) A8.out rfl
                have c1 := R8.out.c1
                have c3 := R8.out.c3
                go_wp2_with fail
                refine (rend_at (R8.out) 11).mono ?_
                rintro e w9 ⟨rfl, h1, h2⟩
                have c4 := h1.c4
                have H1 := hid h1
                have H2 := hid ((B8.out).trans h2)
                clear h1 h2
                go_wp2
                go_ret
                exact ⟨rfl, FIN.out _ _ H1.out H2.out⟩
              · skip
                have hz : z = finR ⟨yf, pg, wt, lv, false, fd⟩ ⟨0, 0, lv, 11⟩ := by
                  rw [← KZ.out, kn4 rfl (by rw [HT.out]; simp [*]) (by simp [*]) (by rw [HT.out]; simp [*])]; rfl
                subst hz
                clear KZ
                go_wp2_with fail
                refine (rend_at (R8.out) 11).mono ?_
                rintro e w9 ⟨rfl, h1, h2⟩
                have c4 := h1.c4
                have H1 := hid h1
                have H2 := hid ((B8.out).trans h2)
                clear h1 h2
                go_wp2
                go_ret
                exact ⟨rfl, FIN.out _ _ H1.out H2.out⟩
end Go.Proofs.Ytfpekfpjoldinaa
