/- The walk of SeqlockOdd: for every case the call returns true; nothing that lay before is changed. Condition: the lists of the case read as such. -/
import Derived.Test.YtkdgjgbmbdmmfaaY2
import Derived.Test.YtkdgjgbmbdmmfaaY3
import Derived.Maps.AppendAt
namespace Go.Proofs.Ytkdgjgbmbdmmfaa
open Go.RowKit

theorem lies_new (w : World) (a b : Int) : Lies (w.alloc (.cells #[.int .u64 a, .int .u64 b] 36)) (.slice (some ⟨w.heap.size, 0, none⟩) 2 2) [a, b] := by
  have h : IsRow (w.alloc (.cells #[.int .u64 a, .int .u64 b] 36)) w.heap.size [a, b] := by
    have := heap_alloc_new w (.cells #[.int .u64 a, .int .u64 b] 36 (0, 0))
    simpa [IsRow, wd] using this
  exact h.lies rfl (by decide)
theorem info37 : ∃ i, Try.prog.info? 37 = some i ∧ i.zero = some (.pointer none) ∧ i.size = 1 ∧ i.bytes = 8 := by
  have h : (Try.prog.info? 37).map (fun i => (i.zero, i.size, i.bytes)) = some (some (.pointer none), 1, 8) := by kernel_rfl
  obtain ⟨i, hi, hzz⟩ := Option.map_eq_some_iff.1 h
  simp only [Prod.mk.injEq] at hzz
  exact ⟨i, hi, hzz.1, hzz.2.1, hzz.2.2⟩
abbrev lkO (a n : Int) : Obj := .cells #[.int .i64 a, .int .i64 n] 33 (0, 0)
abbrev fx (lk : Nat) (a n : Int) (cb : Nat) (c : Cs) : List (Nat × Obj) := [(lk, lkO a n), (cb, csO c)]

theorem vl_below {w w' : World} {q : Option Addr} {n : Nat} (h : VL w q n) (k : Below w.heap.size w w') : VL w' q n := by
  obtain ⟨h1, h2⟩ := h
  refine ⟨h1, fun hn => ?_⟩
  obtain ⟨b, off, rfl, hb, hc⟩ := h2 hn
  refine ⟨b, off, rfl, Nat.lt_of_lt_of_le hb k.size, fun i hi => ?_⟩
  obtain ⟨q', n', c', e, hn'⟩ := hc i hi
  exact ⟨q', n', c', (k.cell (p := ⟨b, off + i, none⟩) hb).trans e, hn'⟩
/-- What is known when nobody is there yet. -/
theorem sy_first {w w1 w2 : World} {c : Cs} (a n : Int) (L : Nat) (K1 : Below (w.alloc (csO c)).heap.size (w.alloc (csO c)) w1) (hM : IsMem 56 w2 (w1.heap.size + 1) w1.heap.size (List.replicate L 0) 0 0) (K2 : Below w1.heap.size w1 w2) (G : Nat → Nat) (f : Nat → Wr) :
    Sy w (w2.alloc (lkO a n)) (w1.heap.size + 1) w1.heap.size (fx w2.heap.size a n w.heap.size c) ⟨List.replicate L 0, 0, 0⟩ 0 G f (.slice none 0 0) := by
  have e0 := heap_alloc_new w (csO c)
  have l0 := lt_of_block e0
  have u := hM.lt
  have s1 := K1.size
  have s2 := K2.size
  have sa : (w.alloc (csO c)).heap.size = w.heap.size + 1 := by simp
  have kk : Below (w.alloc (csO c)).heap.size (w.alloc (csO c)) (w2.alloc (lkO a n)) := zkeep (bel_trans K1 K2) _
  refine ⟨hM.below (below_alloc _ _), fun i hi => absurd hi (by omega), ⟨rfl, Or.inl ⟨rfl, rfl⟩⟩, ?_, bel_trans (below_alloc _ _) kk, by omega, by omega, fun i hi => absurd hi (by omega), fun i hi => absurd hi (by omega), fun i hi => absurd hi (by omega), fun i j hi => absurd hi (by omega), by simp [Value.ownBlock], by simp [Value.ownBlock], fun i hi => absurd hi (by omega)⟩
  intro e he
  simp only [List.mem_cons, List.not_mem_nil, or_false] at he
  rcases he with rfl | rfl
  · exact ⟨heap_alloc_new _ _, ⟨by simp only []; omega, by simp only []; omega, fun i hi => absurd hi (by omega), by simp [Value.ownBlock]⟩, by simp only []; omega⟩
  · exact ⟨(kk.block _ l0).trans e0, ⟨by simp only []; omega, by simp only []; omega, fun i hi => absurd hi (by omega), by simp [Value.ownBlock]⟩, by simp only []; omega⟩
theorem bi_first (A n L : Nat) (h : A + n < L) (f : Nat → Wr) : BI A n ⟨List.replicate L 0, 0, 0⟩ 0 f := by
  refine ⟨by simpa using h, ?_, fun i hi => absurd hi (by omega), fun i hi => absurd hi (by omega), fun i hi => absurd hi (by omega), fun i hi => absurd hi (by omega), fun i hi => absurd hi (by omega), fun i hi => absurd hi (by omega), ?_⟩
  · intro v hv
    have := List.eq_of_mem_replicate hv
    omega
  · have : (List.replicate L (0 : Int)).getD A 0 = 0 := by
      simp only [List.getD, List.getElem?_replicate]
      split <;> rfl
    simp only [this, cntIn]
    rfl

/-- What stands at the beginning of a round of SeqlockOdd. -/
structure Od (w0 w : World) (p b : Nat) (X : List (Nat × Obj)) (j : Nat) (s : St) (k : Nat) (G : Nat → Nat) (f : Nat → Wr) (v : Value) : Prop where
  sy : Sy w0 w p b X s k G f v
  bi : BI 3 2 s k f
  cnt : Cnt s (10 * j)
  num : s.xs.getD 3 0 ≤ j
/-- What stands behind a writer's step in a round. -/
structure Oe (w0 w : World) (p b : Nat) (X : List (Nat × Obj)) (j : Nat) (s : St) (k : Nat) (G : Nat → Nat) (f : Nat → Wr) (v : Value) : Prop where
  sy : Sy w0 w p b X s k G f v
  bi : BI 3 2 s k f
  cnt : Cnt s (10 * j + 1)
  num : s.xs.getD 3 0 ≤ j + 1
theorem od_first {w0 w : World} {p b : Nat} {X : List (Nat × Obj)} {k : Nat} {G : Nat → Nat} {f : Nat → Wr} {v : Value} (H : Sy w0 w p b X ⟨List.replicate 30 0, 0, 0⟩ k G f v) (I : BI 3 2 ⟨List.replicate 30 0, 0, 0⟩ k f) : Od w0 w p b X 0 ⟨List.replicate 30 0, 0, 0⟩ k G f v :=
  ⟨H, I, ⟨by simp, by simp, by simp, by simp⟩, by simp⟩
theorem od_step {w0 w w' : World} {p b : Nat} {X : List (Nat × Obj)} {j : Nat} {s : St} {k : Nat} {G : Nat → Nat} {f : Nat → Wr} {v : Value} (H : Od w0 w p b X j s k G f v) (i : Nat) (hi : i < k) (hj : j ≤ 1000) (K : Ws w' p b (G i) (wS s (f i)).1 (wS s (f i)).2 ∧ But3 (G i) p b w w') :
    Oe w0 w' p b X j (wS s (f i)).1 k G (upd f i (wS s (f i)).2) v := by
  obtain ⟨h1, _, h2⟩ := H.bi.step i hi (by have := H.num; omega)
  exact ⟨H.sy.stepW i hi K, h1, H.cnt.wS _, by have := H.num; omega⟩
/-- What stands behind the load in a round. -/
structure Of (w0 w : World) (p b : Nat) (X : List (Nat × Obj)) (j : Nat) (xs : List Int) (s : St) (k : Nat) (G : Nat → Nat) (f : Nat → Wr) (v : Value) : Prop where
  sy : Sy w0 w p b X s k G f v
  bi : BI 3 2 s k f
  cnt : Cnt s (10 * j + 2)
  num : s.xs.getD 3 0 ≤ j + 1
  sx : s.xs = xs
theorem oe_load {w0 w w' : World} {p b : Nat} {X : List (Nat × Obj)} {j : Nat} {s : St} {k : Nat} {G : Nat → Nat} {f : Nat → Wr} {v : Value} (H : Oe w0 w p b X j s k G f v) (T : Turns 56 p b w w' (loadT s 3)) : Of w0 w' p b X j s.xs (loadT s 3) k G f v :=
  ⟨H.sy.load T, H.bi.mem (loadT_xs _ _), H.cnt.load 3, by rw [loadT_xs]; exact H.num, loadT_xs _ _⟩
theorem od_next {w0 w w' : World} {p b : Nat} {X : List (Nat × Obj)} {j : Nat} {xs : List Int} {s : St} {k : Nat} {G : Nat → Nat} {f : Nat → Wr} {v : Value} (H : Of w0 w p b X j xs s k G f v) (K : Below w.heap.size w w') : Od w0 w' p b X (j + 1) s k G f v :=
  ⟨H.sy.below K, H.bi, H.cnt.mono (by omega), by have := H.num; omega⟩
/-- What stands while a reader goes on in a round in which the number is odd. -/
structure Og (w0 w : World) (p b : Nat) (X : List (Nat × Obj)) (j : Nat) (xs : List Int) (h m : Nat) (s : St) (k : Nat) (G : Nat → Nat) (f : Nat → Wr) (v : Value) (r : Rd) : Prop where
  sy : Sy w0 w p b X s k G f v
  bi : BI 3 2 s k f
  cnt : Cnt s (10 * j + 2 + m)
  num : s.xs.getD 3 0 ≤ j + 1
  sx : s.xs = xs
  rd : IsRd w h r
  ad : r.x.ad = 3
  nn : r.x.n = 2
  e : r.x.e = 4
  t : r.x.t = 0
  k0 : 0 ≤ r.k
  k1 : r.k ≤ m
  ap : Ap p b k G v h
  ax : ∀ e ∈ X, h ≠ e.1
  h0 : w0.heap.size ≤ h
theorem og_first {w0 w w' : World} {p b h : Nat} {X : List (Nat × Obj)} {j : Nat} {xs : List Int} {s : St} {k : Nat} {G : Nat → Nat} {f : Nat → Wr} {v : Value} (H : Of w0 w p b X j xs s k G f v) (hR : IsRd w' h ⟨⟨3, 2, 0, 1 + 2 + 1, 0, List.replicate 16 0⟩, 0, false⟩) (hh : w.heap.size ≤ h) (K : Below w.heap.size w w') :
    Og w0 w' p b X j xs h 0 s k G f v ⟨⟨3, 2, 0, 1 + 2 + 1, 0, List.replicate 16 0⟩, 0, false⟩ := by
  have u := H.sy.mem.lt
  have ub := H.sy.bel.size
  refine ⟨H.sy.below K, H.bi, H.cnt, H.num, H.sx, hR, rfl, rfl, rfl, rfl, by simp, by simp, ⟨by omega, by omega, fun i hi => ?_, fun e => ?_⟩, fun e he => ?_, by omega⟩
  · have := (H.sy.wr i hi).lt; omega
  · have := (owns_lt H.sy.own e).1; omega
  · have := lt_of_block (H.sy.fix e he).1; omega
theorem Og.rs {w0 w : World} {p b h m : Nat} {X : List (Nat × Obj)} {j : Nat} {xs : List Int} {s : St} {k : Nat} {G : Nat → Nat} {f : Nat → Wr} {v : Value} {r : Rd} (H : Og w0 w p b X j xs h m s k G f v r) : Rs w p b h s r := ⟨H.sy.mem, H.rd, H.ap.np, H.ap.nb⟩
theorem Og.rok {w0 w : World} {p b h m : Nat} {X : List (Nat × Obj)} {j : Nat} {xs : List Int} {s : St} {k : Nat} {G : Nat → Nat} {f : Nat → Wr} {v : Value} {r : Rd} (H : Og w0 w p b X j xs h m s k G f v r) : ROk r.x := by
  have h1 := H.ad
  have h2 := H.nn
  have h3 := H.e
  have h4 := H.t
  exact ⟨by omega, by omega, by omega, by omega, by omega, by omega, by omega⟩
theorem Og.mok {w0 w : World} {p b h m : Nat} {X : List (Nat × Obj)} {j : Nat} {xs : List Int} {s : St} {k : Nat} {G : Nat → Nat} {f : Nat → Wr} {v : Value} {r : Rd} (H : Og w0 w p b X j xs h m s k G f v r) : MOk s r.x.ad r.x.n := by
  have := H.bi.fit
  rw [H.ad, H.nn]
  exact ⟨by omega, H.bi.rng⟩
theorem Og.step {w0 w w' : World} {p b h m : Nat} {X : List (Nat × Obj)} {j : Nat} {xs : List Int} {s : St} {k : Nat} {G : Nat → Nat} {f : Nat → Wr} {v : Value} {r : Rd} (H : Og w0 w p b X j xs h m s k G f v r) (hp : xs.getD 3 0 % 2 = 1) (hX : Rs w' p b h (rS s r).1 (rS s r).2 ∧ But3 h p b w w') :
    Og w0 w' p b X j xs h (m + 1) (rS s r).1 k G f v (rS s r).2 := by
  have hf := H.bi.fit
  have h4 := H.t
  have h5 := H.e
  obtain ⟨s1, s2⟩ := rS_0 (s := s) (r := r) (A := 3) H.t (by omega) H.ad (by omega)
  have hod : s.xs.getD 3 0 % 2 ≠ 0 := by rw [H.sx, hp]; decide
  rw [beginT_odd hod] at s2
  have k0 := H.k0
  have k1 := H.k1
  have hc := H.cnt.rS r
  have hsy := H.sy.other H.ap H.ax H.h0 hX.1.mem hX.2
  have hrd := hX.1.rd
  have e1 : (rS s r).2.x.ad = 3 := by rw [s2]; exact H.ad
  have e2 : (rS s r).2.x.n = 2 := by rw [s2]; exact H.nn
  have e3 : (rS s r).2.x.e = 4 := by rw [s2]; exact H.e
  have e4 : (rS s r).2.x.t = 0 := by rw [s2]
  have e5 : (rS s r).2.k = r.k + 1 := by rw [s2]
  exact ⟨hsy, H.bi.mem s1, hc, by rw [s1]; exact H.num, s1.trans H.sx, hrd, e1, e2, e3, e4, by omega, by omega, H.ap, H.ax, H.h0⟩
theorem od_next2 {w0 w : World} {p b h : Nat} {X : List (Nat × Obj)} {j : Nat} {xs : List Int} {s : St} {k : Nat} {G : Nat → Nat} {f : Nat → Wr} {v : Value} {r : Rd} (H : Og w0 w p b X j xs h 6 s k G f v r) : Od w0 w p b X (j + 1) s k G f v :=
  ⟨H.sy, H.bi, H.cnt.mono (by omega), by have := H.num; omega⟩
theorem one_cell (w : World) (g : Nat) : ∀ (j : Nat) (u : Value), [ptr g][j]? = some u → (w.alloc (.cells #[.pointer (some ⟨g, 0, none⟩)] 37)).cell? ((⟨w.heap.size, 0, none⟩ : Addr).add j) = some u := by
  intro j u hj
  rcases j with _ | j
  · obtain rfl : ptr g = u := by simpa using hj
    exact cell_of (heap_alloc_new w (.cells #[.pointer (some ⟨g, 0, none⟩)] 37 (0, 0))) rfl
  · simp at hj
theorem one_plain (g : Nat) : ∀ u ∈ [ptr g], u.oneCell' = true := by
  intro u hu
  obtain rfl := List.mem_singleton.1 hu
  rfl
theorem wok_new (a n : Int) (vs : List Int) (h0 : 0 ≤ a) (h1 : a ≤ 65000) (h2 : 1 ≤ n) (h3 : n ≤ 16) : WOk ⟨a, n, 0, 2 + n + 1, 0, vs⟩ :=
  ⟨h0, h1, h2, h3, by simp, by simp only []; omega, by simp only []; omega, by simp, by simp⟩
theorem odd_wok (k : Nat) (h : k ≤ 1000) : WOk ⟨3, ((2 : Nat) : Int), 0, 2 + ((2 : Nat) : Int) + 1, 0, [(k : Int), 9] ++ List.replicate (16 - 2) 0⟩ := by
  have := h
  exact wok_new 3 ((2 : Nat) : Int) _ (by decide) (by decide) (by decide) (by decide)
theorem odd_rng (k : Nat) (h : k ≤ 1000) : ∀ v ∈ ([(k : Int), 9] ++ List.replicate (16 - 2) 0), 0 ≤ v ∧ v ≤ 18446744073709551615 := by
  intro v hv
  rcases List.mem_append.1 hv with hv | hv
  · simp at hv; omega
  · have := List.eq_of_mem_replicate hv; omega

set_option maxRecDepth 100000 in
set_option maxHeartbeats 2000000 in
theorem odd_walk (c : Cs) (z : Nat → Nat) (w : World) (hV : VL w c.vq c.vn) (hP : PL w c.pq c.pn z) :
    Calls Try.prog 6 #[.agg (csC c)] w fun e w' => e = .returned (.bool true) ∧ Below w.heap.size w w' := by
  have HV := hid hV
  have HP := hid hP
  clear hV hP
  go_enter Try.func6, Try.ntmps6
  go_wp2_with fail
  refine (light_at c _ (vl_below HV.out (below_alloc _ _)) HP.out.1).mono ?_
  rintro e w1 ⟨lb, rfl, hlb, K1⟩
  cases lb
  · have HK := hid (bel_trans (below_alloc w (csO c)) K1)
    clear K1 hlb
    go_wp2_with fail
    refine (known_yes _).mono ?_
    rintro e w2 ⟨rfl, K2⟩
    have HF := hid (bel_trans HK.out K2)
    clear K2 HK
    go_wp2
    go_ret
    exact ⟨rfl, HF.out⟩
  · obtain ⟨hv6, hp300⟩ := hlb rfl
    have HK1 := hid K1
    clear hlb K1
    go_wp2_with fail
    refine (new_yes 30 _ (by decide) (by decide)).mono ?_
    rintro e w2 ⟨rfl, hM2, hB2⟩
    have hS0 := sy_first 3 2 30 HK1.out hM2 hB2 (fun _ => 0) (fun _ => ⟨0, 0, 0, 0, 0, []⟩)
    have hI0 := bi_first 3 2 30 (by decide) (fun _ => ⟨0, 0, 0, 0, 0, []⟩)
    have HS0 := hid hS0
    have HI0 := hid hI0
    have u1 := hM2.lt
    clear hM2 hB2 hS0 hI0
    obtain ⟨ca, cz, vq, vn, vc, cr, pq, pn, pc, co⟩ := c
    simp only [] at hv6 hp300
    generalize hC : (⟨ca, cz, vq, vn, vc, cr, pq, pn, pc, co⟩ : Cs) = C at HS0
    have HC := hid hC
    clear hC HK1
    go_wp2
    go_loopw [6, 7] (fun v i wr => ∃ (k : Nat) (G : Nat → Nat) (f : Nat → Wr), k ≤ vn ∧ i = .int .i64 k ∧ Sy w wr (w1.heap.size + 1) w1.heap.size (fx w2.heap.size 3 2 w.heap.size C) ⟨List.replicate 30 0, 0, 0⟩ k G f v ∧ BI 3 2 ⟨List.replicate 30 0, 0, 0⟩ k f) (fun _ i _ => vn - (intOf i).toNat)
    case atStart => exact ⟨0, _, _, Nat.zero_le _, rfl, HS0.out, HI0.out⟩
    case round =>
      obtain ⟨k, G, f, hk, rfl, hS, hI⟩ := hrel
      have HS := hid hS
      have HI := hid hI
      clear hS hI HS0 HI0
      have cc := (HS.out.fix _ (List.mem_cons_of_mem _ (List.mem_cons_self ..))).1
      rw [← HC.out] at cc
      have c2 : wr.cell? ⟨w.heap.size, 2, none⟩ = some (.slice vq vn vc) := cell_of cc rfl
      have c4 : wr.cell? ⟨w.heap.size, 4, none⟩ = some (.slice pq pn pc) := cell_of cc rfl
      have hcl := lt_of_block cc
      clear cc
      by_cases hlt : k < vn
      · have cl := (HS.out.fix _ (List.mem_cons_self ..)).1
        have l0 : wr.cell? ⟨w2.heap.size, 0, none⟩ = some (.int .i64 3) := cell_of cl rfl
        have l1 : wr.cell? ⟨w2.heap.size, 1, none⟩ = some (.int .i64 2) := cell_of cl rfl
        have hll := lt_of_block cl
        clear cl
        go_wp2_with fail
        refine (write_at _ 3 2 2 _ [(k : Int), 9] rfl (by decide) (by decide) (by decide) (by decide) (lies_new wr _ _)).mono ?_
        rintro e w4 ⟨g, rfl, hW4, hg4, hB4⟩
        have hB5 := bel_trans (below_alloc wr (.cells #[.int .u64 (k : Int), .int .u64 9] 36)) hB4
        have hg5 : wr.heap.size ≤ g := by simp at hg4; omega
        have HB5 := hid hB5
        have HW4 := hid hW4
        obtain ⟨i37, hi, hz0, hz1, hz2⟩ := info37
        have hzz : (Value.pointer none).cells.size = 1 := rfl
        clear hW4 hB4 hB5 hg4 c2 c4 l0 l1
        obtain ⟨sq, sc, rfl⟩ := HS.out.len
        go_wp2_with (at_builtin; (refine wpList_append_own_at _ rfl _ _ 34 rfl w.heap.size 37 i37 (.pointer none) 1 8 Try.underlying34 hi hz0 hz1 hz2 hzz (by decide) _ k (ptrs k G) rfl ?o0 ⟨w4.heap.size, 0, none⟩ 1 _ [ptr g] rfl ?c0 ?c1 ?c2 ?c3 ?c4 ?c5 ?_))
        case o0 => exact (HS.out.below (zkeep HB5.out _)).own
        case c0 => rfl
        case c1 => exact one_cell w4 g
        case c2 => exact one_plain g
        case c3 => unfold maxLen; omega
        case c4 => omega
        case c5 => exact Nat.le_trans HS.out.bel.size (zkeep HB5.out _).size
        intro v' w6 hown hgrow hnil hat
        have H6 := hid (HS.out.push (zkeep HB5.out (.cells #[ptr g] 37)) hg5 (HW4.out.below (below_alloc _ _)) hown hgrow (hat.imp id (fun h => h.trans (by simp))))
        have I6 := hid (HI.out.push _ (odd_wok k (by omega)) rfl rfl rfl (odd_rng k (by omega)))
        clear hown hgrow hnil hat hi hz0 hz1 hz2 hzz HB5 HW4 HS HI hg5
        go_wp2
        go_roundw
        case rel => exact ⟨k + 1, _, _, by omega, by go_num, H6.out, I6.out⟩
        case measure => simp [intOf]; omega
      · have ek : k = vn := by omega
        subst ek
        clear hk hlt
        have HJ : Hid (Od w wr (w1.heap.size + 1) w1.heap.size (fx w2.heap.size 3 2 w.heap.size C) 0 ⟨List.replicate 30 0, 0, 0⟩ k G f u6) := hid (od_first HS.out HI.out)
        clear HS HI
        go_wp2
        go_loopw [9] (fun i wr => ∃ (j : Nat) (s : St) (f : Nat → Wr), j ≤ pn ∧ i = .int .i64 j ∧ Od w wr (w1.heap.size + 1) w1.heap.size (fx w2.heap.size 3 2 w.heap.size C) j s k G f u6) (fun i _ => pn - (intOf i).toNat)
        case atStart => exact ⟨0, _, _, Nat.zero_le _, rfl, HJ.out⟩
        case round =>
          obtain ⟨j, s, f1, hj, rfl, hO⟩ := hrel
          have HO := hid hO
          clear hO HJ
          have cc := (HO.out.sy.fix _ (List.mem_cons_of_mem _ (List.mem_cons_self ..))).1
          rw [← HC.out] at cc
          have d4 : wr.cell? ⟨w.heap.size, 4, none⟩ = some (.slice pq pn pc) := cell_of cc rfl
          have hcl2 := lt_of_block cc
          clear cc c2 c4 hcl
          by_cases hlt : j < pn ∧ 0 < k
          · obtain ⟨hlt, hk0⟩ := hlt
            obtain ⟨sq, sc, rfl, hsc, hscm, hsl⟩ := HO.out.sy.slice hk0
            obtain ⟨pb, po, rfl, hpb, hpc⟩ := HP.out.2.2 (by omega)
            have pc1 : wr.cell? ⟨pb, po + j, none⟩ = some (.int .u8 (z j : Int)) := (HO.out.sy.bel.cell (p := ⟨pb, po + j, none⟩) hpb).trans (hpc j hlt)
            clear hpc
            obtain ⟨i, hi⟩ : ∃ i, z j % k = i := ⟨_, rfl⟩
            have hik : i < k := by rw [← hi]; exact Nat.mod_lt _ hk0
            have hz256 := HP.out.2.1 j
            have hi0 : (0 : Int) ≤ (i : Int) := Int.natCast_nonneg i
            have hik2 : (i : Int) < (k : Int) := Int.ofNat_lt.2 hik
            have hkz : ((k : Int) == 0) = false := beq_eq_false_iff_ne.2 (by omega)
            have hkg : decide ((0 : Int) < (k : Int)) = true := by simp; omega
            have hjl : decide ((j : Int) < (pn : Int)) = true := by simp; omega
            have htm : (z j : Int).tmod (k : Int) = (i : Int) := by rw [Int.tmod_eq_emod_of_nonneg (by omega), ← hi]; simp
            have hwm : (wrap64 (z j : Int)).tmod (k : Int) = (i : Int) := by
              have : wrap64 (z j : Int) = (z j : Int) := by simp (disch := omega) only [IntWalk.wrap64_in]
              rw [this]; exact htm
            have si := hsl i hik
            unfold ptr at si
            clear hi
            have hsq : sq < wr.heap.size := World.block_lt_of_cell? wr ⟨sq, i, none⟩ si
            go_wp2_with fail
            clear htm hwm hkz
            refine (wstep_at (HO.out.sy.ws i hik) (HO.out.bi.ok i hik) (HO.out.bi.mok i hik) HO.out.cnt (by unfold bnd; omega)).mono ?_
            rintro e w7 ⟨rfl, hX⟩
            have H7 := hid (od_step HO.out i hik (by omega) hX)
            clear hX HO hsl si pc1 d4 hcl2
            generalize upd f1 i (wS s (f1 i)).2 = f7 at H7
            generalize (wS s (f1 i)).1 = s7 at H7
            generalize ((wS s (f1 i)).2.t == (wS s (f1 i)).2.e) = b7
            obtain ⟨sq', sc', he7, _, _, hsl7⟩ := H7.out.sy.slice hk0
            obtain ⟨rfl, _, rfl⟩ : sq' = sq ∧ True ∧ sc' = sc := by simp at he7; exact ⟨he7.1.symm, trivial, he7.2.symm⟩
            have HSL := hid hsl7
            clear he7 hsl7 hi0 hik2
            go_wp2
            go_loopw [10, 11] (fun c i wr => ∃ a : Nat, a ≤ k ∧ i = .int .i64 a ∧ c = .int .i64 (cntIn 2 a f7) ∧ wr = w7) (fun _ i _ => k - (intOf i).toNat)
            case atStart => exact ⟨0, Nat.zero_le _, rfl, rfl, rfl⟩
            case round =>
              obtain ⟨a, ha, rfl, rfl, hwr⟩ := hrel
              subst hwr
              by_cases hak : a < k
              · have sa := HSL.out a hak
                unfold ptr at sa
                have hsq2 : sq' < wr.heap.size := World.block_lt_of_cell? wr ⟨sq', a, none⟩ sa
                have ha0 : (0 : Int) ≤ (a : Int) := by omega
                have ha1 : (a : Int) < (k : Int) := by omega
                have hca := cnt_0 2 a f7
                have hcb := cnt_top 2 a f7
                have hcs : cntIn 2 (a + 1) f7 = cntIn 2 a f7 + inb 2 (f7 a) := rfl
                have ht0 := (H7.out.bi.ok a hak).t0
                have ht1 := (H7.out.bi.ok a hak).t1
                have hn2 := H7.out.bi.nn a hak
                have HC1 := hid hcs
                obtain ⟨ta, hta⟩ : ∃ ta, (f7 a).t = ta := ⟨_, rfl⟩
                have HTA := hid hta
                rw [hta] at ht0 ht1
                clear hta hcs
                obtain ⟨cn, hcn⟩ : ∃ cn, cntIn 2 a f7 = cn := ⟨_, rfl⟩
                rw [hcn] at hca hcb ⊢
                have HCN := hid hcn
                clear hcn
                go_wp2_with fail
                refine (turn_at _ (G a) ta (by rw [← HTA.out]; exact (H7.out.sy.wr a hak).pc.c2)).mono ?_
                rintro e w8 ⟨rfl, hw8⟩
                rw [hw8]
                clear hw8 w8
                by_cases h2 : 2 ≤ ta
                · have hb2 : decide ((2 : Int) ≤ ta) = true := by simp; omega
                  go_wp2_with fail
                  refine (turn_at _ (G a) ta (by rw [← HTA.out]; exact (H7.out.sy.wr a hak).pc.c2)).mono ?_
                  rintro e w8 ⟨rfl, hw8⟩
                  rw [hw8]
                  clear hw8 w8
                  by_cases h4 : ta ≤ 4
                  · have hb4 : decide (ta ≤ (4 : Int)) = true := by simp; omega
                    have hin : inb 2 (f7 a) = 1 := by unfold inb; rw [HTA.out, if_pos (by omega)]
                    have hcq : cn + 1 = cntIn 2 (a + 1) f7 := by rw [HC1.out, hin, HCN.out]
                    have HCQ := hid hcq
                    clear hcq hin
                    go_wp2
                    go_roundw
                    case rel => exact ⟨a + 1, by omega, by go_num, by rw [← HCQ.out], trivial⟩
                    case measure => simp [intOf]; omega
                  · have hb4 : decide (ta ≤ (4 : Int)) = false := by simp; omega
                    have hin : inb 2 (f7 a) = 0 := by unfold inb; rw [HTA.out, if_neg (by omega)]
                    have hcq : cn = cntIn 2 (a + 1) f7 := by rw [HC1.out, hin, HCN.out]; omega
                    have HCQ := hid hcq
                    clear hcq hin
                    go_wp2
                    go_roundw
                    case rel => exact ⟨a + 1, by omega, by go_num, by rw [← HCQ.out], trivial⟩
                    case measure => simp [intOf]; omega
                · have hb2 : decide ((2 : Int) ≤ ta) = false := by simp; omega
                  have hin : inb 2 (f7 a) = 0 := by unfold inb; rw [HTA.out, if_neg (by omega)]
                  have hcq : cn = cntIn 2 (a + 1) f7 := by rw [HC1.out, hin, HCN.out]; omega
                  have HCQ := hid hcq
                  clear hcq hin
                  go_wp2
                  go_roundw
                  case rel => exact ⟨a + 1, by omega, by go_num, by rw [← HCQ.out], trivial⟩
                  case measure => simp [intOf]; omega
              · have ea : a = k := by omega
                subst ea
                clear hak ha
                have hcn : cntIn 2 a f7 = s7.xs.getD 3 0 % 2 := H7.out.bi.cnt
                have hlv : loadV s7 3 = s7.xs.getD 3 0 := loadV_at (A := 3) rfl (by have := H7.out.bi.fit; omega)
                have hNr := rng_get H7.out.bi.rng 3
                have hNj := H7.out.num
                rw [hcn]
                clear hcn
                obtain ⟨N, hN⟩ : ∃ N, s7.xs.getD 3 0 = N := ⟨_, rfl⟩
                rw [hN] at hlv hNr hNj ⊢
                have HN := hid hN
                clear hN
                by_cases hp : N % 2 = 0
                · rw [hp]
                  have htn : N.tmod 2 = 0 := by rw [Int.tmod_eq_emod_of_nonneg hNr.1]; exact hp
                  go_wp2_with fail
                  refine (load_any H7.out.sy.mem H7.out.cnt (by unfold bnd; omega) 3).mono ?_
                  rintro e w9 ⟨rfl, hT⟩
                  have H9 := hid (oe_load H7.out hT)
                  clear hT H7
                  have cl := (H9.out.sy.fix _ (List.mem_cons_self ..)).1
                  have l0 : w9.cell? ⟨w2.heap.size, 0, none⟩ = some (.int .i64 3) := cell_of cl rfl
                  have l1 : w9.cell? ⟨w2.heap.size, 1, none⟩ = some (.int .i64 2) := cell_of cl rfl
                  have hll := lt_of_block cl
                  clear cl
                  rw [hlv]
                  go_wp2_with fail
                  refine (read_at _ 3 2 (by decide) (by decide) (by decide) (by decide)).mono ?_
                  rintro e w10 ⟨h, rfl, hR, hh, hB⟩
                  have H10 := hid (od_next H9.out hB)
                  clear hR hB H9 l0 l1 htn hp
                  go_wp2
                  refine wp_loop_rounds 1 ?_
                  rw [rounds_succ]
                  go_wp2
                  go_roundw
                  case rel => exact ⟨j + 1, _, _, by omega, by go_num, H10.out⟩
                  case measure => simp [intOf]; omega
                · have hp1 : N % 2 = 1 := by omega
                  rw [hp1]
                  have htn : N.tmod 2 = 1 := by rw [Int.tmod_eq_emod_of_nonneg hNr.1]; exact hp1
                  go_wp2_with fail
                  refine (load_any H7.out.sy.mem H7.out.cnt (by unfold bnd; omega) 3).mono ?_
                  rintro e w9 ⟨rfl, hT⟩
                  have H9 := hid (oe_load H7.out hT)
                  clear hT H7
                  have cl := (H9.out.sy.fix _ (List.mem_cons_self ..)).1
                  have l0 : w9.cell? ⟨w2.heap.size, 0, none⟩ = some (.int .i64 3) := cell_of cl rfl
                  have l1 : w9.cell? ⟨w2.heap.size, 1, none⟩ = some (.int .i64 2) := cell_of cl rfl
                  have hll := lt_of_block cl
                  clear cl
                  rw [hlv]
                  go_wp2_with fail
                  refine (read_at _ 3 2 (by decide) (by decide) (by decide) (by decide)).mono ?_
                  rintro e w10 ⟨h, rfl, hR, hh, hB⟩
                  have H10 := hid (og_first H9.out hR hh hB)
                  clear hR hB H9 l0 l1 htn
                  go_wp2
                  go_loopw [15] (fun i wr => ∃ (m : Nat) (s : St) (r : Rd), m ≤ 6 ∧ i = .int .i64 m ∧ Og w wr (w1.heap.size + 1) w1.heap.size (fx w2.heap.size 3 2 w.heap.size C) j s7.xs h m s a G f7 (.slice (some ⟨sq', 0, none⟩) a sc') r) (fun i _ => 6 - (intOf i).toNat)
                  case atStart => exact ⟨0, _, _, Nat.zero_le _, rfl, H10.out⟩
                  case round =>
                    obtain ⟨m, s11, r11, hm, rfl, hG⟩ := hrel
                    have HG := hid hG
                    clear hG H10
                    by_cases hm6 : m < 6
                    · go_wp2_with fail
                      refine (rstep_at HG.out.rs HG.out.rok HG.out.mok HG.out.cnt (by unfold bnd; omega) HG.out.k0 (by have := HG.out.k1; omega)).mono ?_
                      rintro e w12 ⟨rfl, hX⟩
                      have H12 := hid (HG.out.step (by rw [HN.out]; exact hp1) hX)
                      have ht := H12.out.t
                      have he := H12.out.e
                      clear hX HG
                      generalize (rS s11 r11).2 = r12 at H12 ht he ⊢
                      generalize (rS s11 r11).1 = s12 at H12
                      rw [ht, he]
                      clear ht he
                      go_wp2
                      go_roundw
                      case rel => exact ⟨m + 1, s12, r12, by omega, by go_num, H12.out⟩
                      case measure => simp [intOf]; omega
                    · have em : m = 6 := by omega
                      subst em
                      have H13 := hid (od_next2 HG.out)
                      clear HG
                      go_wp2
                      go_roundw
                      case rel => exact ⟨j + 1, _, _, by omega, by go_num, H13.out⟩
                      case measure => simp [intOf]; omega
          · obtain ⟨sq, sc, rfl⟩ := HO.out.sy.len
            by_cases hjp : j < pn
            · have hk0 : k = 0 := by omega
              subst hk0
              have hjl : decide ((j : Int) < (pn : Int)) = true := by simp; omega
              go_wp2_with fail
              refine (known_yes _).mono ?_
              rintro e w9 ⟨rfl, K⟩
              have HF := hid (bel_trans HO.out.sy.bel K)
              clear K HO
              go_wp2
              go_ret
              exact ⟨rfl, HF.out⟩
            · have hjl : decide ((j : Int) < (pn : Int)) = false := by simp; omega
              go_wp2_with fail
              refine (known_yes _).mono ?_
              rintro e w9 ⟨rfl, K⟩
              have HF := hid (bel_trans HO.out.sy.bel K)
              clear K HO
              go_wp2
              go_ret
              exact ⟨rfl, HF.out⟩
end Go.Proofs.Ytkdgjgbmbdmmfaa
