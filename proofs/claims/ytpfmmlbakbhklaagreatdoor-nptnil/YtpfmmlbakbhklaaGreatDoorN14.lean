/- What thin leaves. Conditions: the words and frames lie in memory; the tables are live; few calls have been counted. -/
import Derived.Test.YtpfmmlbakbhklaaGreatDoorN13
namespace Go.Proofs.YtpfmmlbakbhklaaGreatDoor
open Go.RowKit

theorem way_at (t : Nat) (pg : Int) (lo : Nat) (w : World) :
    Calls Tryz.prog 96 #[.pointer (some ⟨t, 0, none⟩), .int .i64 pg, .int .i64 lo] w fun e w' =>
      e = .returned (.func (.func 135) #[] #[.pointer (some ⟨w.heap.size, 0, none⟩), .pointer (some ⟨w.heap.size + 2, 0, none⟩), .pointer (some ⟨w.heap.size + 1, 0, none⟩)]) ∧
      w' = ((w.alloc (.cells #[.pointer (some ⟨t, 0, none⟩)] 30)).alloc (.cells #[.int .i64 pg] 3)).alloc (.cells #[.int .i64 lo] 3) := callsIn_wide.1 (way_in 0 t pg lo w)
theorem tL_five (ds : List O.Ds) (f o : Int) : O.tL ds f 5 o = O.tL ds f 5 0 := by
  have hd : ∀ d : O.Ds, O.nxD d 5 o = O.nxD d 5 0 := fun d => rfl
  have he : ∀ d : O.Ds, O.nxE d 5 o = O.nxE d 5 0 := fun d => rfl
  unfold O.tL O.tE
  rw [hd, he]
theorem take_rev {L : List (Int × Nat)} {i : Nat} (h : i < L.length) : (L.take (i + 1)).reverse = L.getD i (0, 0) :: (L.take i).reverse := by
  rw [List.take_add_one, List.getElem?_eq_getElem h]
  simp [List.getD, h]
theorem pk_zd : P.pk P.zd = 0 := by decide +kernel
theorem wayF_pos (xs : List Int) (pg : Int) (lo v : Nat) (fr : Int) : 1 ≤ (wayF xs pg lo v fr).length := by
  rw [wayF_step]; simp
section
variable {u : Si} {w : World} {t : Nat} {o root : Int} {s : Sm} {k : Nat}
set_option maxRecDepth 100000 in
set_option maxHeartbeats 2000000 in
theorem thin_at (hT : IsT u w t 1 o root) (h : Wo u w s k) (hk : k + 50 ≤ bnd) (pg : Int) :
    Calls Tryz.prog 58 #[.pointer (some ⟨t, 0, none⟩), .int .i64 pg] w fun r w' => r = .returned (.tuple #[]) ∧ Wo u w' (thinS pg (wayF s.xs pg 0 3 root).reverse s) (k + 10) ∧ Ch u w w' := by
  have HW := hid h
  have HT := hid hT
  have HK := hid hk
  obtain ⟨m0, m1, m2⟩ := new3 w (.cells #[.pointer (some ⟨t, 0, none⟩)] 30) (.cells #[.int .i64 pg] 3) (.cells #[.int .i64 ((0 : Nat) : Int)] 3)
  have C3 : Below w.heap.size w (((w.alloc (.cells #[.pointer (some ⟨t, 0, none⟩)] 30)).alloc (.cells #[.int .i64 pg] 3)).alloc (.cells #[.int .i64 ((0 : Nat) : Int)] 3)) := ((below_alloc _ _).alloc (by simp) _).alloc (by simp; omega) _
  have HC3 := hid C3
  have HWA := hid (way_at t pg 0 w)
  have HCO := hid (collect_at (hT.below C3) (h.below C3) pg 0 w.heap.size (by decide) m0 m1 m2)
  have hl4 := wayF_le s.xs pg 0 3 root
  have hl1 := wayF_pos s.xs pg 0 3 root
  generalize hL : wayF s.xs pg 0 3 root = L at *
  have hR0 : thinS pg ((L.take (L.length - 1 + 1)).reverse) s = thinS pg L.reverse s := by rw [show L.length - 1 + 1 = L.length by omega, List.take_length]
  generalize hR : thinS pg L.reverse s = R at *
  obtain ⟨n, hn⟩ : ∃ n, L.length = n + 1 := ⟨L.length - 1, by omega⟩
  rw [hn] at HCO hR0 hl4
  have HLN := hid hn
  have HR0 := hid hR0
  have hst := fun (i : Nat) (hi : i < n + 1) => stL_at s.xs pg L i (by omega)
  have HST := hid hst
  have hn3 : n ≤ 3 := by omega
  generalize stL s.xs pg L = cs at *
  clear hT h hk m0 m1 m2 C3 hl1 hL hR hn hR0 hst hl4
  go_enter Tryz.func58, Tryz.ntmps58
  go_wp2_with fail
  refine HWA.out.mono ?_
  rintro r w1 ⟨rfl, hw1⟩
  rw [hw1]
  clear hw1 w1
  go_wp2_with fail
  refine HCO.out.mono ?_
  rintro r w2 ⟨⟨v, rfl, hrow⟩, hB2⟩
  obtain ⟨g, cap, rfl⟩ := ownsRow_succ hrow
  obtain ⟨-, hrw⟩ := hrow
  obtain ⟨g', cap', cur, hgg, hbg, hgh, -, -, hcs, htk⟩ : ∃ g' cap' cur, Value.slice (some ⟨g, 0, none⟩) (n + 1) cap = Value.slice (some ⟨g', 0, none⟩) (n + 1) cap' ∧ (((w.alloc (.cells #[.pointer (some ⟨t, 0, none⟩)] 30)).alloc (.cells #[.int .i64 pg] 3)).alloc (.cells #[.int .i64 ((0 : Nat) : Int)] 3)).heap.size ≤ g' ∧ w2.heap[g']? = some (.cells cur 97 (0, 0)) ∧ n + 1 ≤ cap' ∧ cap' ≤ maxLen ∧ cur.size = cap' * 7 ∧ cur.toList.take ((n + 1) * 7) = cs := by
    rcases hrw with ⟨h, -⟩ | h
    · cases h
    · exact h
  obtain ⟨rfl, -⟩ : g = g' ∧ cap = cap' := by
    injection hgg with a b c
    injection a with a
    injection a with a
    exact ⟨a, c⟩
  have hcell : ∀ j x, cs[j]? = some x → cur[j]? = some x := fun j x hj => by
    rw [← htk] at hj
    have := List.getElem?_take_of_lt (l := cur.toList) (show j < (n + 1) * 7 from by
      have := (List.getElem?_eq_some_iff.1 hj).1
      simp at this; omega)
    rw [this] at hj
    simpa using hj
  have HB2 := hid (HC3.out.trans (hB2.mono HC3.out.size))
  have HGH := hid hgh
  have HCL := hid hcell
  have HW2 := hid (HW.out.below HB2.out)
  clear hB2 hgg hbg hgh hcs htk hrw hcell HCO HWA
  go_wp2
  go_loopw [5] (fun p wr => ∃ (i : Nat) (s' : Sm) (k' : Nat), p = .int .i64 i ∧ i ≤ n ∧ Wo u wr s' k' ∧ k' + i ≤ k + n ∧ Ch u w wr ∧ wr.heap[g]? = some (.cells cur 97 (0, 0)) ∧ thinS pg ((L.take (i + 1)).reverse) s' = R) (fun p _ => (intOf p).toNat)
  case atStart =>
    refine ⟨n, s, k, rfl, Nat.le_refl _, HW2.out, Nat.le_refl _, .of_below HB2.out, HGH.out, ?_⟩
    exact HR0.out
  case round =>
    obtain ⟨i, s', k', rfl, hi, hWr, hkr, hCr, hgr, hRr⟩ := hrel
    have HWr := hid hWr
    have HCr := hid hCr
    have HGr := hid hgr
    have HKr := hid hkr
    have HTr := hid (HT.out.ch HW.out hCr)
    have HRr := hid hRr
    clear hWr hCr hkr hRr
    cases i with
    | zero =>
      have HE := hid (show R = s' from by
        rw [← HRr.out, take_rev (by have := HLN.out; omega)]
        rfl)
      clear hgr
      go_wp2
      go_end0
      exact ⟨rfl, by rw [HE.out]; exact HWr.out.mono (by have := HKr.out; omega), HCr.out⟩
    | succ j =>
      obtain ⟨d0, d1, -⟩ := HST.out (j + 1) (by omega)
      obtain ⟨-, -, d2⟩ := HST.out j (by omega)
      have c0 := P.cell_of hgr (HCL.out _ _ d0)
      have c1 := P.cell_of hgr (HCL.out _ _ d1)
      have c2 := P.cell_of hgr (HCL.out _ _ d2)
      have HTK := hid (show thinS pg (L.getD (j + 1) (0, 0) :: L.getD j (0, 0) :: (L.take j).reverse) s' = R from by
        rw [← HRr.out, take_rev (by have := HLN.out; omega), take_rev (i := j) (by have := HLN.out; omega)])
      have HTJ := hid (take_rev (L := L) (i := j) (by have := HLN.out; omega))
      generalize L.getD (j + 1) (0, 0) = x at *
      generalize L.getD j (0, 0) = y at *
      obtain ⟨xf, xv⟩ := x
      obtain ⟨yf, yv⟩ := y
      simp only at c0 c1 c2
      have HEM := hid (empty_at HTr.out HWr.out xf xv)
      have HSY := hid (fun (g : empW s'.xs xf = true) => (show thinS pg ((L.take (j + 1)).reverse) ⟨setW s'.xs (P.at' yf pg yv) 0, O.tL s'.ds xf 5 0⟩ = R from by
        rw [← HTK.out, HTJ.out]
        show _ = (if _ then _ else _)
        rw [if_pos g]))
      have HSN := hid (fun (g : ¬ empW s'.xs xf = true) => (show R = s' from by
        rw [← HTK.out]
        show (if _ then _ else _) = _
        rw [if_neg g]))
      generalize P.at' yf pg yv = ya at *
      generalize empW s'.xs xf = b at *
      have hj1 : ((j + 1 : Nat) : Int) = (j : Int) + 1 := by omega
      have hjn : (j : Int) + 1 < (n : Int) + 1 := by omega
      clear hgr d1
      go_wp2_with fail
      refine HEM.out.mono ?_
      rintro r w3 ⟨rfl, hB3⟩
      have HT3 := hid (HTr.out.below hB3)
      have HW3 := hid (HWr.out.below hB3)
      have HG3 := hid (P.stay hB3 HGr.out)
      have HC3' := hid (HCr.out.trans (.of_below hB3))
      clear hB3 c0 c1 c2
      have b2 := P.cell_of HG3.out (HCL.out _ _ d2)
      have HD0 := hid d0
      cases b
      · have HE := hid (HSN.out (by decide))
        clear HSY HSN b2 d2 d0
        go_wp2
        go_end0
        exact ⟨rfl, by rw [HE.out]; exact HW3.out.mono (by have := HKr.out; omega), HC3'.out⟩
      · have HE := hid (HSY.out rfl)
        have HLA := hid (lay_at' HT3.out HW3.out (by have := HKr.out; have := HK.out; omega) ya P.zd)
        have hzd : lay s' ya P.zd = ⟨setW s'.xs ya 0, s'.ds⟩ := by unfold lay; rw [pk_zd]
        rw [hzd] at HLA
        have HZ : Hid (P.eV P.zd = .agg #[.bool false, .int .i64 0, .bool false, .int .i64 0]) := rfl
        rw [HZ.out] at HLA
        clear HSY HSN d2 d0 hzd
        go_wp2_with fail
        refine HLA.out.mono ?_
        rintro r w4 ⟨rfl, hW4, hC4⟩
        have HG4 := hid (HW3.out.keep hC4 HG3.out (by decide) (by decide) (by decide))
        have HW4 := hid hW4
        have HT4 := hid (HT3.out.ch HW3.out hC4)
        have HC4 := hid (HC3'.out.trans hC4)
        have e0 := P.cell_of HG4.out (HCL.out _ _ HD0.out)
        clear hW4 hC4 b2
        go_wp2_with fail
        refine (retire_at HT4.out HW4.out xf).mono ?_
        rintro r w5 ⟨rfl, hW5, hC5⟩
        rw [tL_five] at hW5
        have HG5 := hid (HW4.out.keep hC5 HG4.out (by decide) (by decide) (by decide))
        have HW5 := hid hW5
        have HC5 := hid (HC4.out.trans hC5)
        clear hW5 hC5 e0
        go_wp2
        refine ⟨⟨j, _, k' + 1, rfl, by omega, HW5.out, by have := HKr.out; omega, HC5.out, HG5.out, HE.out⟩, ?_⟩
        simp [intOf]
end
end Go.Proofs.YtpfmmlbakbhklaaGreatDoor
