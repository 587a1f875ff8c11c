/- What New and Drop return and leave. Conditions: the words and frames lie in memory; few calls have been counted. -/
import Derived.Test.YtpfmmlbakbhklaaGreatDoorN20
namespace Go.Proofs.YtpfmmlbakbhklaaGreatDoor
open Go.RowKit
section
variable {u : Si} {w : World} {s : Sm} {k : Nat}
set_option maxHeartbeats 400000 in
theorem tnew_nopool (v : Value) (w : World) (q : Value) (h : O.NoP w q) (o : Int) :
    Calls Tryz.prog 36 #[v, q, .int .i64 o] w fun r w' => r = .returned (.tuple #[.pointer none, .int .i64 1]) ∧ w' = w := by
  have HP := hid (O.len_none h)
  clear h
  go_enter Tryz.func36, Tryz.ntmps36
  go_wp2_with fail
  refine HP.out.mono ?_
  rintro r w1 ⟨rfl, hw1⟩
  rw [hw1]
  clear hw1 w1
  go_wp2
  go_ret2
  exact ⟨rfl, rfl⟩
set_option maxHeartbeats 400000 in
theorem tnew_few (q : Option Addr) (n : Nat) (hm : Calls Tryz.prog 30 #[.pointer q] w fun r w' => r = .returned (.int .i64 n) ∧ w' = w) (p b : Nat) (L : List O.Ds) (hp : O.PP w p b L) (hn : n < 16 * L.length) (o : Int) :
    Calls Tryz.prog 36 #[.pointer q, .pointer (some ⟨p, 0, none⟩), .int .i64 o] w fun r w' => r = .returned (.tuple #[.pointer none, .int .i64 1]) ∧ w' = w := by
  have HM := hid hm
  have HP := hid (O.len_at hp)
  have h1 := hp.pos
  have h2 := hp.top
  generalize L.length = m at *
  have e0 : ((m : Int) == 0) = false := by rw [beq_eq_false_iff_ne]; omega
  have e1 : wrap64 (16 * (m : Int)) = 16 * (m : Int) := by unfold wrap64; omega
  have e2 : (n : Int) < 16 * (m : Int) := by omega
  clear hm hp hn h1
  go_enter Tryz.func36, Tryz.ntmps36
  go_wp2_with fail
  refine HP.out.mono ?_
  rintro r w1 ⟨rfl, hw1⟩
  rw [hw1]
  clear hw1 w1
  go_wp2_with fail
  refine HM.out.mono ?_
  rintro r w1 ⟨rfl, hw1⟩
  rw [hw1]
  clear hw1 w1
  go_wp2_with fail
  refine HP.out.mono ?_
  rintro r w1 ⟨rfl, hw1⟩
  rw [hw1]
  clear hw1 w1
  go_wp2
  go_ret2
  exact ⟨rfl, rfl⟩
set_option maxHeartbeats 1000000 in
theorem tnew_at (h : Wo u w s k) (hk : k + 20 ≤ bnd) (hn : 16 * s.ds.length ≤ s.xs.length) (o : Int) :
    Calls Tryz.prog 36 #[.pointer (some ⟨u.mp, 0, none⟩), .pointer (some ⟨u.pp, 0, none⟩), .int .i64 o] w fun r w' =>
      r = .returned (.tuple #[.pointer (if newE s o = 0 then some ⟨w.heap.size, 0, none⟩ else none), .int .i64 (newE s o)]) ∧ Wo u w' (newS s o none16) (k + 16) ∧ Ch u w w' ∧ (newE s o = 0 → IsT u w' w.heap.size 1 o (newF s o)) := by
  obtain ⟨d, l, hm, -⟩ := h.mem
  have HM := hid (len_at hm)
  have HP := hid (O.len_at h.pool)
  have h1 := h.pool.pos
  have h2 := h.pool.top
  have h3 := hm.top
  have HW := hid h
  have hB := below_alloc w (.cells #[.int .i64 1, .pointer (some ⟨u.mp, 0, none⟩), .pointer (some ⟨u.pp, 0, none⟩), .int .i64 o, .int .i64 0] 70)
  have hT0 : IsT u (w.alloc (.cells #[.int .i64 1, .pointer (some ⟨u.mp, 0, none⟩), .pointer (some ⟨u.pp, 0, none⟩), .int .i64 o, .int .i64 0] 70)) w.heap.size 1 o 0 := heap_alloc_new w _
  have HN := hid (new_none hT0 (h.below hB) hk)
  have HT0 := hid hT0
  have HB := hid hB
  generalize newS s o none16 = sn at *
  generalize newE s o = ee at *
  generalize newF s o = ff at *
  have hns : ∃ n m : Nat, s.xs.length = n ∧ s.ds.length = m := ⟨_, _, rfl, rfl⟩
  obtain ⟨n, m, en, em⟩ := hns
  rw [en] at HM hn h3
  rw [em] at HP hn h1 h2
  have e0 : ((m : Int) == 0) = false := by rw [beq_eq_false_iff_ne]; omega
  have e1 : wrap64 (16 * (m : Int)) = 16 * (m : Int) := by unfold wrap64; omega
  have e2 : ¬ (n : Int) < 16 * (m : Int) := by omega
  clear h hm hn h1 hB hT0 en em
  by_cases hee : ee = 0
  · subst hee
    rw [if_pos rfl] at HN ⊢
    go_enter Tryz.func36, Tryz.ntmps36
    go_wp2_with fail
    refine HP.out.mono ?_
    rintro r w1 ⟨rfl, hw1⟩
    rw [hw1]
    clear hw1 w1
    go_wp2_with fail
    refine HM.out.mono ?_
    rintro r w1 ⟨rfl, hw1⟩
    rw [hw1]
    clear hw1 w1
    go_wp2_with fail
    refine HP.out.mono ?_
    rintro r w1 ⟨rfl, hw1⟩
    rw [hw1]
    clear hw1 w1
    go_wp2_with fail
    refine HN.out.mono ?_
    rintro r w1 ⟨rfl, hW1, hC1⟩
    have HW1 := hid hW1
    have hT1 := HT0.out.ch (HW.out.below HB.out) hC1
    have HT1 := hid hT1
    have f4 : w1.frozen? ⟨w.heap.size, 4, none⟩ = false := P.free_of hT1
    have c4 := hT1.cells.2.2.2.2
    have HC1 := hid ((Ch.of_below HB.out).trans hC1)
    clear hW1 hC1 hT1
    go_wp2
    go_ret2
    have hb : Below w.heap.size w1 (w1.setCell ⟨w.heap.size, 4, none⟩ (.int .i64 ff)) := (Below.refl _ _).setCell (p := ⟨w.heap.size, 4, none⟩) (Nat.le_refl _) _
    exact ⟨rfl, HW1.out.belowN hb HW.out.lt.1 HW.out.lt.2, HC1.out.below2 hb, fun _ => P.heap_setCell_self HT1.out _⟩
  · rw [if_neg hee] at HN ⊢
    have hee' : (ee != 0) = true := by simpa using hee
    go_enter Tryz.func36, Tryz.ntmps36
    go_wp2_with fail
    refine HP.out.mono ?_
    rintro r w1 ⟨rfl, hw1⟩
    rw [hw1]
    clear hw1 w1
    go_wp2_with fail
    refine HM.out.mono ?_
    rintro r w1 ⟨rfl, hw1⟩
    rw [hw1]
    clear hw1 w1
    go_wp2_with fail
    refine HP.out.mono ?_
    rintro r w1 ⟨rfl, hw1⟩
    rw [hw1]
    clear hw1 w1
    have HEE := hid hee
    clear hee
    go_wp2_with fail
    refine HN.out.mono ?_
    rintro r w1 ⟨rfl, hW1, hC1⟩
    have HW1 := hid hW1
    have HC1 := hid ((Ch.of_below HB.out).trans hC1)
    clear hW1 hC1
    go_wp2
    go_ret2
    exact ⟨rfl, HW1.out, HC1.out, fun e => absurd e HEE.out⟩
end
/-- All is as it was but the memory, its words, the frames, and the tables. -/
structure ChT (u : Si) (t : Nat) (w w' : World) : Prop where
  os : w'.os = w.os
  tape : w'.tape = w.tape
  output : w'.output = w.output
  size : w.heap.size ≤ w'.heap.size
  block : ∀ k, k < w.heap.size → k ≠ u.mp → k ≠ u.wb → k ≠ u.pb → k ≠ t → w'.heap[k]? = w.heap[k]?
section
variable {u : Si} {w : World} {t : Nat} {o root : Int} {s : Sm} {k : Nat}
/-- But for the block t the world is as it was; there, c lies. -/
structure Pu (t : Nat) (c : Array Value) (w w' : World) : Prop where
  os : w'.os = w.os
  tape : w'.tape = w.tape
  output : w'.output = w.output
  size : w'.heap.size = w.heap.size
  block : ∀ k, k ≠ t → w'.heap[k]? = w.heap[k]?
  here : w'.heap[t]? = some (.cells c 70 (0, 0))
theorem size1 (W : World) (p : Addr) (v : Value) : (W.setCell p v).heap.size = W.heap.size := by simp [World.setCell]
theorem puts5 {W : World} {a b c d e : Value} (h : W.heap[t]? = some (.cells #[a, b, c, d, e] 70 (0, 0))) (a' b' c' d' e' : Value) :
    Pu t #[a', b', c', d', e'] W (((((W.setCell ⟨t, 0, none⟩ a').setCell ⟨t, 1, none⟩ b').setCell ⟨t, 2, none⟩ c').setCell ⟨t, 3, none⟩ d').setCell ⟨t, 4, none⟩ e') := by
  have h0 : (W.setCell ⟨t, 0, none⟩ a').heap[t]? = some (.cells #[a', b, c, d, e] 70 (0, 0)) := P.heap_setCell_self h _
  have h1 : ((W.setCell ⟨t, 0, none⟩ a').setCell ⟨t, 1, none⟩ b').heap[t]? = some (.cells #[a', b', c, d, e] 70 (0, 0)) := P.heap_setCell_self h0 _
  have h2 : (((W.setCell ⟨t, 0, none⟩ a').setCell ⟨t, 1, none⟩ b').setCell ⟨t, 2, none⟩ c').heap[t]? = some (.cells #[a', b', c', d, e] 70 (0, 0)) := P.heap_setCell_self h1 _
  have h3 : ((((W.setCell ⟨t, 0, none⟩ a').setCell ⟨t, 1, none⟩ b').setCell ⟨t, 2, none⟩ c').setCell ⟨t, 3, none⟩ d').heap[t]? = some (.cells #[a', b', c', d', e] 70 (0, 0)) := P.heap_setCell_self h2 _
  have h4 : (((((W.setCell ⟨t, 0, none⟩ a').setCell ⟨t, 1, none⟩ b').setCell ⟨t, 2, none⟩ c').setCell ⟨t, 3, none⟩ d').setCell ⟨t, 4, none⟩ e').heap[t]? = some (.cells #[a', b', c', d', e'] 70 (0, 0)) := P.heap_setCell_self h3 _
  have hb := (((((Below.refl 0 W).setCell (p := ⟨t, 0, none⟩) (Nat.zero_le _) a').setCell (p := ⟨t, 1, none⟩) (Nat.zero_le _) b').setCell (p := ⟨t, 2, none⟩) (Nat.zero_le _) c').setCell (p := ⟨t, 3, none⟩) (Nat.zero_le _) d').setCell (p := ⟨t, 4, none⟩) (Nat.zero_le _) e'
  refine ⟨hb.os, hb.tape, hb.output, by rw [size1, size1, size1, size1, size1], fun k hk => ?_, h4⟩
  rw [Below.heap_setCell _ _ _ _ hk, Below.heap_setCell _ _ _ _ hk, Below.heap_setCell _ _ _ _ hk, Below.heap_setCell _ _ _ _ hk, Below.heap_setCell _ _ _ _ hk]
theorem Wg.put (h : Wo u w s k) {st : Int} (hT : IsT u w t st o root) {w' : World} {c : Array Value} (p : Pu t c w w') : Wo u w' s k := by
  obtain ⟨a, b, e⟩ := h.apart hT (by decide) (by decide) (by decide)
  obtain ⟨hc, hh⟩ := h.pool.head
  have hp : t ≠ u.pp := fun e => by
    rw [← e, show w.heap[t]? = _ from hT] at hh
    injection hh with hh
    injection hh with _ hh _
    cases hh
  have h0 : t ≠ 0 := fun e => by
    have h1 := h.tab.hi 0 (by decide)
    subst e
    rw [show w.cell? ⟨0, 0 * 4 + 1, none⟩ = w.cell? ⟨0, 1, none⟩ from rfl, hT.cells.2.1] at h1
    cases h1
  obtain ⟨d, l, hm, hd⟩ := h.mem
  exact ⟨⟨d, l, hm.keep (p.block _ (fun e => a e.symm)) (p.block _ (fun e => b e.symm)), hd⟩, h.pool.keep (p.block _ (fun e => hp e.symm)) (p.block _ (fun x => e x.symm)), h.tab.below (n := 1) ⟨p.os, p.tape, p.output, Nat.le_of_eq p.size.symm, fun j hj => p.block j (by omega)⟩ (by decide) (Nat.le_of_eq p.size.symm), h.u64, h.low, h.ne⟩
theorem turnAll_app (ds : List O.Ds) (l : List Int) (f : Int) : turnAll ds (l ++ [f]) = O.tL (turnAll ds l) f 5 0 := by simp [turnAll]
set_option maxRecDepth 100000 in
set_option maxHeartbeats 2000000 in
theorem drop_at (hT : IsT u w t 1 o root) (h : Wo u w s k) :
    Calls Tryz.prog 37 #[.pointer (some ⟨t, 0, none⟩)] w fun r w' => (∃ v, r = .returned v ∧ w'.ownsRow w.heap.size 3 1 v (allL s.xs root).length ((allL s.xs root).map (Value.int .i64))) ∧ Wo u w' ⟨s.xs, turnAll s.ds (allL s.xs root)⟩ k ∧ ChT u t w w' ∧
      w'.heap[t]? = some (.cells #[.int .i64 2, .pointer none, .pointer none, .int .i64 0, .int .i64 0] 70 (0, 0)) := by
  have HLV := hid (isLive_at hT)
  rw [show ((1 : Int) == 1) = true from rfl] at HLV
  have HAL := hid (all_at hT h)
  have HW := hid h
  have HT := hid hT
  have hgl := gat_len s.xs root
  have hlen : (allL s.xs root).length = (gat s.xs root).length := allL_len _ _
  have hg1 : 1 ≤ (gat s.xs root).length := by rw [gat_self]; simp
  rw [← hlen] at hgl hg1
  generalize allL s.xs root = AL at *
  obtain ⟨n, hn⟩ : ∃ n, AL.length = n + 1 := ⟨AL.length - 1, by omega⟩
  have HN := hid hn
  have hn5 : n ≤ 5000 := by omega
  clear hT h hlen hg1 hgl hn
  go_enter Tryz.func37, Tryz.ntmps37
  go_wp2_with fail
  refine HLV.out.mono ?_
  rintro e w' ⟨rfl, hw'⟩
  rw [hw']
  clear hw' w'
  go_wp2_with fail
  refine HAL.out.mono ?_
  rintro e w2 ⟨v, rfl, hrow, hB2⟩
  rw [HN.out] at hrow
  obtain ⟨g, cap, rfl⟩ := ownsRow_succ hrow
  obtain ⟨hgb, cur, hgh, hgc, -, -, htk⟩ := row_block hrow
  have HROW := hid hrow
  have HGB := hid hgb
  have hcell : ∀ j y, AL[j]? = some y → j < n + 1 → cur[j]? = some (.int .i64 y) := fun j y hj hl => by
    have : (AL.map (Value.int .i64))[j]? = some (.int .i64 y) := by simp [hj]
    rw [← htk] at this
    rw [List.getElem?_take_of_lt (by omega)] at this
    simpa using this
  have HCE := hid hcell
  have HGH := hid hgh
  have HB2 := hid hB2
  have HW2 := hid (HW.out.below hB2)
  have HT2 := hid (HT.out.below hB2)
  clear hB2 hrow hgb hgh htk hcell
  go_wp2
  go_loopw [13] (fun p wr => ∃ i : Nat, p = .int .i64 i ∧ i ≤ n + 1 ∧ Wo u wr ⟨s.xs, turnAll s.ds (AL.take i)⟩ k ∧ Ch u w2 wr) (fun p _ => n + 1 - (intOf p).toNat)
  case atStart => exact ⟨0, rfl, Nat.zero_le _, HW2.out, .refl _ _⟩
  case round =>
    obtain ⟨i, rfl, hi, hWr, hCr⟩ := hrel
    have HWr := hid hWr
    have HCr := hid hCr
    have HTr := hid (HT2.out.ch HW2.out hCr)
    have hgr := HW2.out.keep hCr HGH.out (by decide) (by decide) (by decide)
    have HGR := hid hgr
    by_cases hlt : i < n + 1
    · have hia : i < AL.length := by rw [HN.out]; exact hlt
      have c0 := P.cell_of hgr (HCE.out i AL[i] (List.getElem?_eq_getElem hia) hlt)
      have HTK := hid (show AL.take (i + 1) = AL.take i ++ [AL[i]] by rw [List.take_add_one, List.getElem?_eq_getElem hia]; rfl)
      generalize AL[i] = f at *
      have hlt' : (i : Int) < (n : Int) + 1 := by omega
      have hwr : wrap64 ((i : Int) + 1) = ((i + 1 : Nat) : Int) := by unfold wrap64; omega
      clear hgr hWr hCr hia
      go_wp2_with fail
      refine (retire_at HTr.out HWr.out f).mono ?_
      rintro r w3 ⟨rfl, hW3, hC3⟩
      rw [tL_five] at hW3
      have HW3 := hid hW3
      have HC3 := hid (HCr.out.trans hC3)
      clear hW3 hC3 c0
      go_wp2
      refine ⟨⟨i + 1, by go_num, by omega, ?_, HC3.out⟩, by simp [intOf]; omega⟩
      rw [HTK.out, turnAll_app]
      exact HW3.out
    · obtain rfl : i = n + 1 := by omega
      have hltn : ¬ (((n + 1 : Nat) : Int) < (n : Int) + 1) := by omega
      have htr := HTr.out
      obtain ⟨d0, d1, d2, d3, d4⟩ := HTr.out.cells
      have f0 : wr.frozen? ⟨t, 0, none⟩ = false := P.free_of htr
      have f1 : wr.frozen? ⟨t, 1, none⟩ = false := P.free_of htr
      have f2 : wr.frozen? ⟨t, 2, none⟩ = false := P.free_of htr
      have f3 : wr.frozen? ⟨t, 3, none⟩ = false := P.free_of htr
      have f4 : wr.frozen? ⟨t, 4, none⟩ = false := P.free_of htr
      have htr' := hid htr
      have hgr' := hid hgr
      clear hgr hWr hCr hlt htr
      go_wp2
      go_ret
      have htr' := htr'.out
      have hgr' := hgr'.out
      have hx := puts5 htr' (.int .i64 2) (.pointer none) (.pointer none) (.int .i64 0) (.int .i64 0)
      generalize (((((wr.setCell ⟨t, 0, none⟩ (.int .i64 2)).setCell ⟨t, 1, none⟩ (.pointer none)).setCell ⟨t, 2, none⟩ (.pointer none)).setCell ⟨t, 3, none⟩ (.int .i64 0)).setCell ⟨t, 4, none⟩ (.int .i64 0)) = W at *
      have hgt : g ≠ t := fun e => by
        subst e
        rw [show wr.heap[g]? = _ from htr'] at hgr'
        injection hgr' with hgr'
        injection hgr' with _ hgr' _
        cases hgr'
      have hall : AL.take (n + 1) = AL := by rw [← HN.out, List.take_length]
      refine ⟨⟨.slice (some ⟨g, 0, none⟩) (n + 1) cap, rfl, ?_⟩, ?_, ?_, hx.here⟩
      · rw [HN.out]
        have hr := HROW.out
        refine ⟨hr.1, ?_⟩
        rcases hr.2 with h | ⟨g', cap', cur', hgg, a, hb, c⟩
        · exact .inl h
        · injection hgg with e1 e2 e3
          injection e1 with e1
          injection e1 with e1
          subst e1 e3
          refine .inr ⟨g, cap, cur', rfl, a, ?_, c⟩
          rw [HGH.out] at hb
          rw [hx.block _ hgt, hgr', ← hb]
      · have hW := HWr.out
        rw [hall] at hW
        exact hW.put htr' hx
      · have c1 := HCr.out
        refine ⟨hx.os.trans (c1.os.trans HB2.out.os), hx.tape.trans (c1.tape.trans HB2.out.tape), hx.output.trans (c1.output.trans HB2.out.output), by have := hx.size; have := c1.size; have := HB2.out.size; omega, fun j hj a b c d => ?_⟩
        have := HB2.out.size
        exact (hx.block j d).trans ((c1.block j (by omega) a b c).trans (HB2.out.block j hj))
end
end Go.Proofs.YtpfmmlbakbhklaaGreatDoor
