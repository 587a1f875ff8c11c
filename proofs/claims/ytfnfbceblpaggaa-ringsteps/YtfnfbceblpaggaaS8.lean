/- One who pushes, or pops, alone: what push and pop of the statements return and leave. Conditions: the words and values are of 64 bits; the counts are below 2^62. -/
import Derived.Test.YtfnfbceblpaggaaS7
namespace Go.Proofs.Ytfnfbceblpaggaa
open Go.RowKit

structure SOk (s : St) : Prop where
  w : ∀ i, 0 ≤ s.xs.getD i 0 ∧ s.xs.getD i 0 ≤ 18446744073709551615
structure YOk (x : Pr) : Prop where
  xo : XOk x
  vo : ∀ v, x.pv = some v → 0 ≤ v ∧ v ≤ 18446744073709551615
theorem add64_bounds (a b : Int) : 0 ≤ add64 a b ∧ add64 a b ≤ 18446744073709551615 := by
  unfold add64
  have h1 := Int.emod_nonneg (a + b) (show (18446744073709551616 : Int) ≠ 0 by decide)
  have h2 := Int.emod_lt_of_pos (a + b) (show (0 : Int) < 18446744073709551616 by decide)
  omega
theorem SOk.load {s : St} (h : SOk s) (a : Int) : 0 ≤ loadV s a ∧ loadV s a ≤ 18446744073709551615 := by
  unfold loadV
  split
  · exact h.w _
  · decide
theorem getD_set_any {l : List Int} {i j : Nat} {v : Int} : (l.set i v).getD j 0 = if i = j ∧ j < l.length then v else l.getD j 0 := by
  simp only [List.getD, List.getElem?_set]
  by_cases h : i = j
  · subst h
    by_cases h2 : i < l.length
    · simp [h2]
    · simp [h2]
  · simp [h]
theorem SOk.set {xs : List Int} {d l d' l' : Int} (h : SOk ⟨xs, d, l⟩) (i : Nat) {v : Int} (hv : 0 ≤ v ∧ v ≤ 18446744073709551615) : SOk ⟨xs.set i v, d', l'⟩ := by
  refine ⟨fun j => ?_⟩
  simp only [getD_set_any]
  split
  · exact hv
  · exact h.w j
theorem SOk.store {s : St} (h : SOk s) (a : Int) {v : Int} (hv : 0 ≤ v ∧ v ≤ 18446744073709551615) : SOk (storeT s a v) := by
  unfold storeT
  split
  · exact SOk.set (d := s.d) (l := s.l) h _ hv
  · exact h
theorem SOk.loadT {s : St} (h : SOk s) (a : Int) : SOk (loadT s a) := by
  unfold Ytfnfbceblpaggaa.loadT
  split
  · exact ⟨h.w⟩
  · exact h
theorem SOk.cas {s : St} (h : SOk s) (a o : Int) {v : Int} (hv : 0 ≤ v ∧ v ≤ 18446744073709551615) : SOk (casT s a o v) := by
  unfold casT
  split
  · split
    · exact SOk.set (d := s.d) (l := s.l) h _ hv
    · exact ⟨h.w⟩
  · exact h
theorem YOk.next {s : St} {x : Pr} (hs : SOk s) (h : YOk x) : YOk (pX s x) := by
  obtain ⟨⟨⟨q, p0, p1⟩, t0, t1⟩, hv⟩ := h
  unfold pX
  by_cases hz : x.tn = 5
  · rw [if_pos hz]; exact ⟨⟨⟨q, p0, p1⟩, t0, t1⟩, hv⟩
  · rw [if_neg hz]
    unfold pGo
    split
    · by_cases h0 : x.tn = 0
      · rw [if_pos h0]
        have e : (doR s (pNext x)).v = loadV s (cntA x.pv x.ad) := by simp [pNext, h0, doR]
        have := hs.load (cntA x.pv x.ad)
        exact ⟨⟨⟨q, by simp only [e]; omega, by simp only [e]; omega⟩, by simp, by simp⟩, hv⟩
      · rw [if_neg h0]
        by_cases h1 : x.tn = 1
        · rw [if_pos h1]
          refine ⟨⟨⟨q, p0, p1⟩, ?_, ?_⟩, hv⟩ <;> simp only [bhT] <;> split <;> (try split) <;> decide
        · rw [if_neg h1]
          by_cases h2 : x.tn = 2
          · rw [if_pos h2]
            split
            · exact ⟨⟨⟨q, p0, p1⟩, by simp, by simp⟩, hv⟩
            · exact ⟨⟨⟨q, p0, p1⟩, by simp, by simp⟩, hv⟩
          · rw [if_neg h2]
            split
            · exact ⟨⟨⟨q, p0, p1⟩, by simp, by simp⟩, hv⟩
            · exact ⟨⟨⟨q, p0, p1⟩, by simp, by simp⟩, hv⟩
    · exact ⟨⟨⟨q, p0, p1⟩, by simp, by simp⟩, hv⟩
theorem SOk.next {s : St} {x : Pr} (hs : SOk s) (h : YOk x) : SOk (pT s x) := by
  unfold pT
  by_cases hz : x.tn = 5
  · rw [if_pos hz]; exact hs
  · rw [if_neg hz]
    have t0 := h.xo.t0
    have t1 := h.xo.t1
    by_cases h0 : x.tn = 0
    · simp only [pNext, if_pos h0, doT]; exact hs.loadT _
    · by_cases h1 : x.tn = 1
      · simp only [pNext, if_neg h0, if_pos h1, doT]; exact hs.loadT _
      · by_cases h2 : x.tn = 2
        · simp only [pNext, if_neg h0, if_neg h1, if_pos h2, doT]; exact hs.cas _ _ (add64_bounds _ _)
        · by_cases h3 : x.tn = 3
          · simp only [pNext, if_neg h0, if_neg h1, if_neg h2, if_pos h3]
            cases hp : x.pv with
            | none => simp only [moveA, doT]; exact hs.loadT _
            | some v => simp only [moveA, doT]; exact hs.store _ (h.vo v hp)
          · have h4 : x.tn = 4 := by omega
            simp only [pNext, if_neg h0, if_neg h1, if_neg h2, if_neg h3, if_pos h4, doT]
            refine hs.store _ ?_
            unfold leftV
            split
            · exact add64_bounds _ _
            · exact add64_bounds _ _
theorem Cnt.next {s : St} {k : Nat} (c : Cnt s k) (x : Pr) : Cnt (pT s x) (k + 1) := by
  unfold pT
  split
  · exact c.mono (by omega)
  · generalize pNext x = a
    unfold doT
    split
    · exact c.load _
    · split
      · exact c.store _ _
      · split
        · exact c.cas _ _ _
        · split
          · exact c.add _ _
          · exact c.mono (by omega)

/-- Steps of one alone. -/
def run : Nat → St → Pr → St × Pr
  | 0, s, x => (s, x)
  | k + 1, s, x => run k (pT s x) (pX s x)
theorem run_done {x : Pr} (h : x.tn = 5) (s : St) : ∀ k, run k s x = (s, x)
  | 0 => rfl
  | k + 1 => by
    rw [run, show pT s x = s by simp [pT, h], show pX s x = x by simp [pX, h]]
    exact run_done h s k
abbrev newP (ad sz v : Int) : Pr := ⟨ad, sz, some v, 0, 0, 0, false⟩
abbrev newG (ad sz : Int) : Pr := ⟨ad, sz, none, 0, 0, 0, false⟩
theorem newP_ok {ad sz v : Int} (q : QOk ad sz) (h0 : 0 ≤ v) (h1 : v ≤ 18446744073709551615) : YOk (newP ad sz v) :=
  ⟨⟨⟨q, by simp, by simp⟩, by simp, by simp⟩, fun u e => by obtain rfl := Option.some.inj e; exact ⟨h0, h1⟩⟩
theorem newG_ok {ad sz : Int} (q : QOk ad sz) : YOk (newG ad sz) :=
  ⟨⟨⟨q, by simp, by simp⟩, by simp, by simp⟩, fun u e => by cases e⟩

theorem But3.but {g p b : Nat} {w w1 w2 : World} (h : But p b w w1) (k : But3 g p b w1 w2) (hg : w.heap.size ≤ g) : But p b w w2 :=
  ⟨k.os.trans h.os, k.tape.trans h.tape, k.output.trans h.output, Nat.le_trans h.size k.size, fun i hi a c => (k.block i (Nat.lt_of_lt_of_le hi h.size) (by omega) a c).trans (h.block i hi a c)⟩
/-- What stands while one goes on alone. -/
structure Al (t : TypeId) (w : World) (p b g c k : Nat) (s0 : St) (x0 : Pr) (s : St) (x : Pr) (wr : World) : Prop where
  hs : Hs t wr p b g s x
  y : YOk x
  so : SOk s
  co : Cnt s (c + k)
  but : But p b w wr
  gl : w.heap.size ≤ g
  eq : run (10 - k) s x = run 10 s0 x0
theorem Al.next {t : TypeId} {w wr w2 : World} {p b g c k : Nat} {s0 s : St} {x0 x : Pr} (h : Al t w p b g c k s0 x0 s x wr) (hk : k < 10) (T : Hs t w2 p b g (pT s x) (pX s x) ∧ But3 g p b wr w2) :
    Al t w p b g c (k + 1) s0 x0 (pT s x) (pX s x) w2 := by
  refine ⟨T.1, h.y.next h.so, h.so.next h.y, h.co.next x, But3.but h.but T.2 h.gl, h.gl, ?_⟩
  rw [← h.eq, show 10 - k = (10 - (k + 1)) + 1 by omega, run]
theorem Al.stop {t : TypeId} {w wr w2 : World} {p b g c k : Nat} {s0 s : St} {x0 x : Pr} (h : Al t w p b g c k s0 x0 s x wr) (hk : k < 10) (T : Hs t w2 p b g (pT s x) (pX s x) ∧ But3 g p b wr w2) (hd : (pX s x).tn = 5) :
    Al t w p b g c 11 s0 x0 (pT s x) (pX s x) w2 := by
  have h1 := h.next hk T
  refine ⟨h1.hs, h1.y, h1.so, h1.co.mono (by omega), h1.but, h1.gl, ?_⟩
  rw [← h1.eq, run_done hd, run_done hd]

set_option maxRecDepth 100000 in
set_option maxHeartbeats 600000 in
theorem lawP {w : World} {p b c : Nat} {s : St} (h : Mem 77 w p b s) (hc : Cnt s c) (hk : c + 20 ≤ bnd) (hs : SOk s) {ad sz : Int} (q : QOk ad sz) {v : Int} (h0 : 0 ≤ v) (h1 : v ≤ 18446744073709551615) :
    Calls Try.prog 28 #[.pointer (some ⟨p, 0, none⟩), .agg #[.int .i64 ad, .int .i64 sz], .int .u64 v] w fun e w' => e = .returned (.bool ((run 10 s (newP ad sz v)).2.wh && ((run 10 s (newP ad sz v)).2.tn == 5))) ∧ Turns 77 p b w w' (run 10 s (newP ad sz v)).1 := by
  have HM := hid h
  have HC := hid hc
  have HK := hid hk
  have HS := hid hs
  have HQ := hid q
  have HV := hid (newP_ok q h0 h1)
  have hg := heap_alloc_new w (.cells #[.int .i64 ad, .int .i64 sz] 35 (0, 0))
  have c0 : (w.alloc (.cells #[.int .i64 ad, .int .i64 sz] 35)).cell? ⟨w.heap.size, 0, none⟩ = some (.int .i64 ad) := cell_of hg rfl
  have c1 : (w.alloc (.cells #[.int .i64 ad, .int .i64 sz] 35)).cell? ⟨w.heap.size, 1, none⟩ = some (.int .i64 sz) := cell_of hg rfl
  clear h hc hk hs q hg h0 h1
  generalize hR : run 10 s (newP ad sz v) = R at *
  have HR := hid hR
  clear hR
  obtain ⟨sR, R⟩ := R
  go_enter Try.func28, Try.ntmps28
  go_wp2_with fail
  refine (push_at _ v HQ.out).mono ?_
  rintro e w1 ⟨g, rfl, hP, hg, K⟩
  have hB := bel_trans (below_alloc w (.cells #[.int .i64 ad, .int .i64 sz] 35)) K
  have hg' : w.heap.size ≤ g := Nat.le_trans (below_alloc w (.cells #[.int .i64 ad, .int .i64 sz] 35)).size hg
  have I0 : Al 87 w p b g c 0 s (newP ad sz v) s (newP ad sz v) w1 := ⟨⟨HM.out.below hB, hP, by have := HM.out.lt; omega, by have := HM.out.lt; omega⟩, HV.out, HS.out, HC.out, But.of_below hB, hg', rfl⟩
  have HI := hid I0
  clear I0 hP hg K hB hg' c0 c1
  go_wp2
  go_loopw [8] (fun i wr => ∃ (k : Nat) (s' : St) (x' : Pr), k ≤ 11 ∧ i = .int .i64 k ∧ Al 87 w p b g c k s (newP ad sz v) s' x' wr) (fun i _ => 11 - (intOf i).toNat)
  case atStart => exact ⟨0, _, _, by omega, rfl, HI.out⟩
  case round =>
    obtain ⟨k, s', x', hk, rfl, hI⟩ := hrel
    have HI := hid hI
    clear hI
    by_cases hlt : k < 10
    · go_wp2_with fail
      refine (stepP HI.out.hs HI.out.y.xo HI.out.co (by have := HK.out; omega)).mono ?_
      rintro e3 w3 ⟨rfl, T⟩
      have HT := hid T
      clear T
      by_cases hd : (pX s' x').tn = 5
      · have hb : ((pX s' x').tn == 5) = true := by simp [hd]
        rw [hb]
        go_wp2
        exact ⟨⟨11, _, _, by omega, by go_num, HI.out.stop hlt HT.out hd⟩, by simp [intOf]; omega⟩
      · have hb : ((pX s' x').tn == 5) = false := by simp [hd]
        rw [hb]
        go_wp2
        exact ⟨⟨k + 1, _, _, by omega, by go_num, HI.out.next hlt HT.out⟩, by simp [intOf]; omega⟩
    · have e0 : 10 - k = 0 := by omega
      have e1 := HI.out.eq
      rw [e0, run, HR.out] at e1
      obtain ⟨rfl, rfl⟩ := Prod.mk.inj e1
      clear e0 e1
      go_wp2_with fail
      refine (resP HI.out.hs.pr).mono ?_
      rintro e4 w4 ⟨rfl, m, hm⟩
      have HT : Hid (Turns 77 p b w w4 s') := hid (by rw [hm]; exact ⟨HI.out.hs.mem.below (below_drewN (Below.refl _ _) m), HI.out.but.trans (But.of_below (below_drewN (Below.refl _ _) m))⟩)
      clear hm
      obtain ⟨wh, hwh⟩ : ∃ wh, x'.wh = wh := ⟨_, rfl⟩
      rw [hwh]
      have HW := hid hwh
      clear hwh
      cases wh
      · go_wp2
        go_ret
        exact ⟨by rw [HW.out]; rfl, HT.out⟩
      · go_wp2
        go_ret
        exact ⟨by rw [HW.out]; first | rfl | simp, HT.out⟩
set_option maxRecDepth 100000 in
set_option maxHeartbeats 600000 in
theorem lawG {w : World} {p b c : Nat} {s : St} (h : Mem 77 w p b s) (hc : Cnt s c) (hk : c + 20 ≤ bnd) (hs : SOk s) {ad sz : Int} (q : QOk ad sz) :
    Calls Try.prog 29 #[.pointer (some ⟨p, 0, none⟩), .agg #[.int .i64 ad, .int .i64 sz]] w fun e w' => e = .returned (.tuple #[.int .u64 (gotV (run 10 s (newG ad sz)).2), .bool ((run 10 s (newG ad sz)).2.wh && gotD (run 10 s (newG ad sz)).2)]) ∧ Turns 77 p b w w' (run 10 s (newG ad sz)).1 := by
  have HM := hid h
  have HC := hid hc
  have HK := hid hk
  have HS := hid hs
  have HQ := hid q
  have HV := hid (newG_ok q)
  have hg := heap_alloc_new w (.cells #[.int .i64 ad, .int .i64 sz] 35 (0, 0))
  have c0 : (w.alloc (.cells #[.int .i64 ad, .int .i64 sz] 35)).cell? ⟨w.heap.size, 0, none⟩ = some (.int .i64 ad) := cell_of hg rfl
  have c1 : (w.alloc (.cells #[.int .i64 ad, .int .i64 sz] 35)).cell? ⟨w.heap.size, 1, none⟩ = some (.int .i64 sz) := cell_of hg rfl
  clear h hc hk hs q hg
  generalize hR : run 10 s (newG ad sz) = R at *
  have HR := hid hR
  clear hR
  obtain ⟨sR, R⟩ := R
  go_enter Try.func29, Try.ntmps29
  go_wp2_with fail
  refine (pop_at _ HQ.out).mono ?_
  rintro e w1 ⟨g, rfl, hP, hg, K⟩
  have hB := bel_trans (below_alloc w (.cells #[.int .i64 ad, .int .i64 sz] 35)) K
  have hg' : w.heap.size ≤ g := Nat.le_trans (below_alloc w (.cells #[.int .i64 ad, .int .i64 sz] 35)).size hg
  have I0 : Al 90 w p b g c 0 s (newG ad sz) s (newG ad sz) w1 := ⟨⟨HM.out.below hB, hP, by have := HM.out.lt; omega, by have := HM.out.lt; omega⟩, HV.out, HS.out, HC.out, But.of_below hB, hg', rfl⟩
  have HI := hid I0
  clear I0 hP hg K hB hg' c0 c1
  go_wp2
  go_loopw [7] (fun i wr => ∃ (k : Nat) (s' : St) (x' : Pr), k ≤ 11 ∧ i = .int .i64 k ∧ Al 90 w p b g c k s (newG ad sz) s' x' wr) (fun i _ => 11 - (intOf i).toNat)
  case atStart => exact ⟨0, _, _, by omega, rfl, HI.out⟩
  case round =>
    obtain ⟨k, s', x', hk, rfl, hI⟩ := hrel
    have HI := hid hI
    clear hI
    by_cases hlt : k < 10
    · go_wp2_with fail
      refine (stepG HI.out.hs HI.out.y.xo HI.out.co (by have := HK.out; omega)).mono ?_
      rintro e3 w3 ⟨rfl, T⟩
      have HT := hid T
      clear T
      by_cases hd : (pX s' x').tn = 5
      · have hb : ((pX s' x').tn == 5) = true := by simp [hd]
        rw [hb]
        go_wp2
        exact ⟨⟨11, _, _, by omega, by go_num, HI.out.stop hlt HT.out hd⟩, by simp [intOf]; omega⟩
      · have hb : ((pX s' x').tn == 5) = false := by simp [hd]
        rw [hb]
        go_wp2
        exact ⟨⟨k + 1, _, _, by omega, by go_num, HI.out.next hlt HT.out⟩, by simp [intOf]; omega⟩
    · have e0 : 10 - k = 0 := by omega
      have e1 := HI.out.eq
      rw [e0, run, HR.out] at e1
      obtain ⟨rfl, rfl⟩ := Prod.mk.inj e1
      clear e0 e1
      go_wp2_with fail
      refine (resG HI.out.hs.pr).mono ?_
      rintro e4 w4 ⟨rfl, hm⟩
      have HT : Hid (Turns 77 p b w w4 s') := hid (by rw [hm]; exact ⟨HI.out.hs.mem, HI.out.but⟩)
      clear hm
      obtain ⟨wh, hwh⟩ : ∃ wh, x'.wh = wh := ⟨_, rfl⟩
      rw [hwh]
      have HW := hid hwh
      clear hwh
      cases wh
      · go_wp2
        go_ret2
        exact ⟨by rw [HW.out]; rfl, HT.out⟩
      · go_wp2
        go_ret2
        exact ⟨by rw [HW.out]; first | rfl | simp, HT.out⟩
end Go.Proofs.Ytfnfbceblpaggaa
