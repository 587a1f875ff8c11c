/- The walk of SeqlockEnds: for every list of values and every number the call returns true; nothing that lay before is changed. Condition: the values read as such. -/
import Derived.Test.YtkdgjgbmbdmmfaaE1
namespace Go.Proofs.Ytkdgjgbmbdmmfaa
open Go.RowKit

set_option maxRecDepth 100000 in
set_option maxHeartbeats 1000000 in
theorem ends_long (q : Option Addr) (n c : Nat) (kb : Nat) (hn : n < 1 ∨ 16 < n) (hm : n ≤ maxLen) (w : World) :
    Calls Try.prog 4 #[.slice q n c, .int .u8 kb] w fun e w' => e = .returned (.bool true) ∧ Below w.heap.size w w' := by
  unfold maxLen at hm
  by_cases h1 : n < 1
  · have hd : decide ((n : Int) < 1) = true := by simp; omega
    clear hn
    go_enter Try.func4, Try.ntmps4
    go_wp2_with fail
    refine (known_yes _).mono ?_
    rintro e w1 ⟨rfl, K⟩
    go_wp2
    go_ret
    exact ⟨rfl, K⟩
  · have hd : decide ((n : Int) < 1) = false := by simp; omega
    have hd2 : decide ((16 : Int) < (n : Int)) = true := by simp; omega
    clear hn
    go_enter Try.func4, Try.ntmps4
    go_wp2_with fail
    refine (known_yes _).mono ?_
    rintro e w1 ⟨rfl, K⟩
    go_wp2
    go_ret
    exact ⟨rfl, K⟩

/-- What stands at the beginning of a round of SeqlockEnds. -/
structure Eo (w0 w : World) (p b lk n i : Nat) (s : St) : Prop where
  ba : Ba w0 w p b lk 1 n s
  cnt : Cnt s (100 * i)
  len : s.xs.length = 20
  rng : ∀ v ∈ s.xs, 0 ≤ v ∧ v ≤ 18446744073709551615
  num : s.xs.getD 1 0 = 2 * (i : Int)

theorem eo_first {w w1 : World} (n : Nat) (hM : IsMem 56 w1 (w.heap.size + 1) w.heap.size (List.replicate 20 0) 0 0) (hB : Below w.heap.size w w1) :
    Eo w (w1.alloc (.cells #[.int .i64 1, .int .i64 (n : Int)] 33)) (w.heap.size + 1) w.heap.size w1.heap.size n 0 ⟨List.replicate 20 0, 0, 0⟩ := by
  have u := hM.lt
  refine ⟨⟨hM.below (below_alloc _ _), heap_alloc_new _ _, zkeep hB _, by omega, by omega, by omega, by omega⟩, ⟨by simp, by simp, by simp, by simp⟩, by simp, ?_, by simp⟩
  intro v hv
  have := List.eq_of_mem_replicate hv
  omega
theorem ends_lk {n k m : Nat} {vs : List Int} (h1 : 1 ≤ n) (h16 : n ≤ 16) (hm : m ≤ 4) (hk : k < 1 + m) (hr : ∀ v ∈ vs, 0 ≤ v ∧ v ≤ 18446744073709551615) : Lk 1 n (2 * (k : Int)) 20 (vs ++ List.replicate (16 - n) 0) := by
  refine ⟨by omega, by omega, h1, h16, by omega, by omega, by omega, ?_⟩
  intro v hv
  rcases List.mem_append.1 hv with h | h
  · exact hr v h
  · have := List.eq_of_mem_replicate h; omega
/-- What stands while the writer goes on. -/
structure Ew (w0 w : World) (p b g h lk n k : Nat) (vs : List Int) (j : Nat) (s : St) (x : Wr) : Prop where
  en : En w0 w p b g h lk 1 n s x ⟨⟨1, n, 0, 1 + (n : Int) + 1, 0, List.replicate 16 0⟩, 0, false⟩
  pw : PW 1 n (2 * (k : Int)) 20 vs j s x
  cnt : Cnt s (100 * k + j)
theorem ew_first {w0 w w' : World} {p b g h lk n k : Nat} {vs : List Int} {s : St} (hE : En w0 w' p b g h lk 1 n s ⟨1, n, 0, 2 + (n : Int) + 1, 0, vs⟩ ⟨⟨1, n, 0, 1 + (n : Int) + 1, 0, List.replicate 16 0⟩, 0, false⟩) (hO : Eo w0 w p b lk n k s) : Ew w0 w' p b g h lk n k vs 0 s ⟨1, n, 0, 2 + (n : Int) + 1, 0, vs⟩ := by
  refine ⟨hE, ⟨?_, hO.len, hO.rng, by simpa using hO.num, fun i hi => by omega, by omega⟩, hO.cnt⟩
  congr 1
  omega
theorem Ew.step {w0 w w' : World} {p b g h lk n k : Nat} {vs : List Int} {j : Nat} {s : St} {x : Wr} (K : Lk 1 n (2 * (k : Int)) 20 vs) (H : Ew w0 w p b g h lk n k vs j s x) (hj : j < n + 3) (hX : Ws w' p b g (wS s x).1 (wS s x).2 ∧ But3 g p b w w') : Ew w0 w' p b g h lk n k vs (j + 1) (wS s x).1 (wS s x).2 :=
  ⟨H.en.stepW hX, H.pw.step K hj, H.cnt.wS x⟩

theorem ends_bnd {n m k j : Nat} (hm : m ≤ 4) (hk : k < 1 + m) (hj : j ≤ n + 3) (h16 : n ≤ 16) : 100 * k + j ≤ bnd := by unfold bnd; omega
theorem ends_bnd2 {n m k j : Nat} (hm : m ≤ 4) (hk : k < 1 + m) (hj : j ≤ n + 2) (h16 : n ≤ 16) : 100 * k + 20 + j ≤ bnd := by unfold bnd; omega
theorem ew_t {w0 w : World} {p b g h lk n k : Nat} {vs : List Int} {j : Nat} {s : St} {x : Wr} (H : Ew w0 w p b g h lk n k vs (j + 1) s x) : (x.t == x.e) = ((j : Int) + 1 == (n : Int) + 3) := by
  have := H.pw.xe
  subst this
  rfl
/-- What stands while the reader goes on. -/
structure Er (w0 w : World) (p b g h lk n k : Nat) (xs : List Int) (x : Wr) (j : Nat) (s : St) (r : Rd) : Prop where
  en : En w0 w p b g h lk 1 n s x r
  pr : PR 1 n (2 * (k : Int) + 2) xs j s r
  cnt : Cnt s (100 * k + 20 + j)
theorem Er.below {w0 w w' : World} {p b g h lk n k : Nat} {xs : List Int} {x : Wr} {j : Nat} {s : St} {r : Rd} (H : Er w0 w p b g h lk n k xs x j s r) (K : Below w.heap.size w w') : Er w0 w' p b g h lk n k xs x j s r := ⟨H.en.below K, H.pr, H.cnt⟩
theorem Er.step {w0 w w' : World} {p b g h lk n k : Nat} {xs : List Int} {x : Wr} {j : Nat} {s : St} {r : Rd} (K : Lr 1 n (2 * (k : Int) + 2) xs) (H : Er w0 w p b g h lk n k xs x j s r) (hj : j < n + 2) (hX : Rs w' p b h (rS s r).1 (rS s r).2 ∧ But3 h p b w w') : Er w0 w' p b g h lk n k xs x (j + 1) (rS s r).1 (rS s r).2 :=
  ⟨H.en.stepR hX, H.pr.step K hj, H.cnt.rS r⟩
theorem er_t {w0 w : World} {p b g h lk n k : Nat} {xs : List Int} {x : Wr} {j : Nat} {s : St} {r : Rd} (H : Er w0 w p b g h lk n k xs x (j + 1) s r) : (r.x.t == r.x.e) = ((j : Int) + 1 == (n : Int) + 2) := by
  rw [H.pr.t, H.pr.e]; rfl
theorem ends_lr {w0 w : World} {p b g h lk n k : Nat} {vs : List Int} {s : St} {x : Wr} (K : Lk 1 n (2 * (k : Int)) 20 vs) (H : Ew w0 w p b g h lk n k vs (n + 3) s x) : Lr 1 n (2 * (k : Int) + 2) s.xs := by
  have h1 := H.pw.len
  have h2 := K.fit
  have h3 := H.pw.num
  rw [if_neg (by omega), if_neg (by omega)] at h3
  exact ⟨by omega, by omega, K.n0, K.n1, h3, by omega, H.pw.rng⟩
theorem ew_n {w0 w : World} {p b g h lk n k : Nat} {vs : List Int} {j : Nat} {s : St} {x : Wr} (K : Lk 1 n (2 * (k : Int)) 20 vs) (_ : Ew w0 w p b g h lk n k vs j s x) : n ≤ 16 := K.n1
theorem er_first {w0 w : World} {p b g h lk n k : Nat} {vs : List Int} {s : St} {x : Wr} (K : Lk 1 n (2 * (k : Int)) 20 vs) (H : Ew w0 w p b g h lk n k vs (n + 3) s x) : Er w0 w p b g h lk n k s.xs x 0 s ⟨⟨1, n, 0, 1 + (n : Int) + 1, 0, List.replicate 16 0⟩, 0, false⟩ :=
  ⟨H.en, ⟨rfl, rfl, rfl, by simp only []; omega, rfl, fun h => absurd rfl h, rfl, fun i hi => by omega, by simp, by simp, by simp, by omega⟩, H.cnt.mono (by have := ew_n K H; omega)⟩
theorem ends_vals {w0 w : World} {p b g h lk n k : Nat} {vs : List Int} {s : St} {x : Wr} (hv : vs.length = n) (H : Ew w0 w p b g h lk n k (vs ++ List.replicate (16 - n) 0) (n + 3) s x) : ∀ i, i < n → s.xs.getD (1 + 1 + i) 0 = vs.getD i 0 := by
  intro i hi
  rw [H.pw.val i (by omega) hi]
  simp [List.getD, List.getElem?_append_left (show i < vs.length by omega)]
theorem ends_wok {w0 w : World} {p b g h lk n k : Nat} {vs : List Int} {s : St} {x : Wr} (K : Lk 1 n (2 * (k : Int)) 20 vs) (H : Ew w0 w p b g h lk n k vs (n + 3) s x) : WOk x ∧ x.t = x.e ∧ x.ad = 1 ∧ x.n = n := by
  refine ⟨H.pw.wok K, ?_⟩
  have := H.pw.xe
  subst this
  exact ⟨by simp, rfl, rfl⟩
theorem ends_lies {n k : Nat} {vs xs : List Int} {s : St} {r : Rd} {w8 : World} {g : Nat} (hv : vs.length = n) (hx : ∀ i, i < n → xs.getD (1 + 1 + i) 0 = vs.getD i 0) (H : PR 1 n (2 * (k : Int) + 2) xs (n + 2) s r) (h16 : n ≤ 16) (hR : IsRow w8 g (r.x.vs.take n)) : Lies w8 (.slice (some ⟨g, 0, none⟩) n n) vs := by
  have e : r.x.vs.take n = vs := by
    have hu := H.us
    apply List.ext_getElem
    · simp; omega
    · intro i h1 h2
      have hi : i < n := by omega
      have a := H.val i (by omega) hi
      rw [hx i hi] at a
      simp [List.getD, show i < r.x.vs.length by omega, h2] at a
      simpa using a
  rw [e] at hR
  exact hR.lies hv (by omega)
theorem eo_next {w0 w w' : World} {p b g h lk n k : Nat} {xs : List Int} {x : Wr} {s : St} {r : Rd} (K : Lr 1 n (2 * (k : Int) + 2) xs) (H : Er w0 w p b g h lk n k xs x (n + 2) s r) (H' : En w0 w' p b g h lk 1 n s x r) (h16 : n ≤ 16) (hl : xs.length = 20) : Eo w0 w' p b lk n (k + 1) s := by
  have e := H.pr.sx
  refine ⟨H'.ba, H.cnt.mono (by omega), by rw [e]; exact hl, by rw [e]; exact K.rng, ?_⟩
  rw [e, K.num]
  omega

set_option maxRecDepth 100000 in
set_option maxHeartbeats 2000000 in
theorem ends_short (q : Option Addr) (n c : Nat) (kb : Nat) (vs : List Int) (h1 : 1 ≤ n) (h16 : n ≤ 16) (hkb : kb < 256) (w : World) (hvl : vs.length = n) (hvr : ∀ v ∈ vs, 0 ≤ v ∧ v ≤ 18446744073709551615) (hL : Lies w (.slice q n c) vs) :
    Calls Try.prog 4 #[.slice q n c, .int .u8 kb] w fun e w' => e = .returned (.bool true) ∧ Below w.heap.size w w' := by
  have HL := hid hL
  have HV := hid hvl
  have HR := hid hvr
  clear hL hvl hvr
  have hd : decide ((n : Int) < 1) = false := by simp; omega
  have hd2 : decide ((16 : Int) < (n : Int)) = false := by simp; omega
  obtain ⟨m, hm⟩ : ∃ m, kb % 5 = m := ⟨_, rfl⟩
  have hm4 : m ≤ 4 := by omega
  have htm : (kb : Int).tmod 5 = (m : Int) := by rw [Int.tmod_eq_emod_of_nonneg (by omega)]; omega
  have hwm : (wrap64 (kb : Int)).tmod 5 = (m : Int) := by
    have : wrap64 (kb : Int) = kb := by simp (disch := omega) only [IntWalk.wrap64_in]
    rw [this]; exact htm
  clear hm
  go_enter Try.func4, Try.ntmps4
  go_wp2_with fail
  refine (new_yes 20 _ (by decide) (by decide)).mono ?_
  rintro e w1 ⟨rfl, hM1, hB1⟩
  have HM1 := hid hM1
  have HB1 := hid hB1
  have u1 := hM1.lt
  clear hM1 hB1
  go_wp2
  go_loopw [8] (fun i wr => ∃ (k : Nat) (s : St), k ≤ 1 + m ∧ i = .int .i64 k ∧ Eo w wr (w.heap.size + 1) w.heap.size w1.heap.size n k s) (fun i _ => 1 + m - (intOf i).toNat)
  case atStart => exact ⟨0, ⟨List.replicate 20 0, 0, 0⟩, Nat.zero_le _, rfl, eo_first n HM1.out HB1.out⟩
  case round =>
    obtain ⟨k, s, hk, rfl, hE⟩ := hrel
    have HE := hid hE
    clear hE HM1 HB1
    by_cases hlt : k < 1 + m
    · have lc0 : wr.cell? ⟨w1.heap.size, 0, none⟩ = some (.int .i64 1) := cell_of HE.out.ba.lock rfl
      have lc1 : wr.cell? ⟨w1.heap.size, 1, none⟩ = some (.int .i64 (n : Int)) := cell_of HE.out.ba.lock rfl
      go_wp2_with fail
      refine (write_at _ 1 n c q vs HV.out h1 h16 (by decide) (by decide) (HL.out.below HE.out.ba.bel)).mono ?_
      rintro e w2 ⟨g, rfl, hW2, hg2, hB2⟩
      have l2 := (HE.out.ba.below hB2).lock
      have c0 : w2.cell? ⟨w1.heap.size, 0, none⟩ = some (.int .i64 1) := cell_of l2 rfl
      have c1 : w2.cell? ⟨w1.heap.size, 1, none⟩ = some (.int .i64 (n : Int)) := cell_of l2 rfl
      have HW2 := hid hW2
      have HB2 := hid hB2
      have HG2 := hid hg2
      clear hW2 hB2 l2 lc0 lc1 hg2
      go_wp2_with fail
      refine (read_at _ 1 n (by omega) (by omega) (by decide) (by decide)).mono ?_
      rintro e w3 ⟨h, rfl, hR3, hh3, hB3⟩
      have hEn := HE.out.ba.en HW2.out HG2.out HB2.out hR3 hh3 hB3
      have HK : Hid (Lk 1 n (2 * (k : Int)) 20 (vs ++ List.replicate (16 - n) 0)) := hid (ends_lk h1 h16 hm4 hlt HR.out)
      have H3 : Hid (Ew w w3 (w.heap.size + 1) w.heap.size g h w1.heap.size n k (vs ++ List.replicate (16 - n) 0) 0 s ⟨1, n, 0, 2 + (n : Int) + 1, 0, vs ++ List.replicate (16 - n) 0⟩) := hid (ew_first hEn HE.out)
      clear hEn hR3 hh3 hB3 HW2 HB2 HG2 c0 c1 HE
      go_wp2
      go_loopw [11] (fun i wr => ∃ (j : Nat) (s : St) (x : Wr), j ≤ n + 3 ∧ i = .int .i64 ((j : Int) + 1) ∧ Ew w wr (w.heap.size + 1) w.heap.size g h w1.heap.size n k (vs ++ List.replicate (16 - n) 0) j s x) (fun i _ => n + 5 - (intOf i).toNat)
      case atStart => exact ⟨0, _, _, Nat.zero_le _, rfl, H3.out⟩
      case round =>
        obtain ⟨j, s2, x2, hj, rfl, hE4⟩ := hrel
        have H4 := hid hE4
        clear hE4 H3
        by_cases hj2 : j < n + 3
        · have hc : decide ((j : Int) + 1 ≤ (n : Int) + 3) = true := by simp; omega
          go_wp2_with fail
          refine (wstep_at H4.out.en.ws (H4.out.pw.wok HK.out) (H4.out.pw.mok HK.out) H4.out.cnt (ends_bnd hm4 hlt hj h16)).mono ?_
          rintro e w5 ⟨rfl, hX⟩
          have H5 := hid (H4.out.step HK.out hj2 hX)
          clear hX
          have ht := ew_t H5.out
          generalize (wS s2 x2).2 = x5 at H5 ht ⊢
          generalize (wS s2 x2).1 = s5 at H5
          rw [ht]
          clear ht
          by_cases hl : j + 1 = n + 3
          · have hb : ((j : Int) + 1 == (n : Int) + 3) = true := by simp; omega
            rw [hb]
            go_wp2
            go_roundw
            case rel => exact ⟨j + 1, s5, x5, by omega, by go_num, H5.out⟩
            case measure => simp [intOf]; omega
          · have hb : ((j : Int) + 1 == (n : Int) + 3) = false := beq_eq_false_iff_ne.2 (by omega)
            rw [hb]
            go_wp2
            go_roundw
            case rel => exact ⟨j + 1, s5, x5, by omega, by go_num, H5.out⟩
            case measure => simp [intOf]; omega
        · have hc : decide ((j : Int) + 1 ≤ (n : Int) + 3) = false := by simp; omega
          have ej : j = n + 3 := by omega
          subst ej
          have HR0 : Hid (Lr 1 n (2 * (k : Int) + 2) s2.xs) := hid (ends_lr HK.out H4.out)
          have H5 : Hid (Er w wr (w.heap.size + 1) w.heap.size g h w1.heap.size n k s2.xs x2 0 s2 ⟨⟨1, n, 0, 1 + (n : Int) + 1, 0, List.replicate 16 0⟩, 0, false⟩) := hid (er_first HK.out H4.out)
          have HX : Hid (∀ i, i < n → s2.xs.getD (1 + 1 + i) 0 = vs.getD i 0) := hid (ends_vals HV.out H4.out)
          have HW : Hid (WOk x2 ∧ x2.t = x2.e ∧ x2.ad = 1 ∧ x2.n = n) := hid (ends_wok HK.out H4.out)
          have hxl := H4.out.pw.len
          clear H4 hj hj2
          generalize s2.xs = xf at *
          have HXL := hid hxl
          clear hxl
          go_wp2
          go_loopw [12] (fun i wr => ∃ (j : Nat) (s : St) (r : Rd), j ≤ n + 2 ∧ i = .int .i64 ((j : Int) + 1) ∧ Er w wr (w.heap.size + 1) w.heap.size g h w1.heap.size n k xf x2 j s r) (fun i _ => n + 5 - (intOf i).toNat)
          case atStart => exact ⟨0, _, _, Nat.zero_le _, rfl, H5.out⟩
          case round =>
            obtain ⟨j, s6, r6, hj, rfl, hE6⟩ := hrel
            have H6 := hid hE6
            clear hE6 H5
            by_cases hj2 : j < n + 2
            · have hc : decide ((j : Int) + 1 ≤ (n : Int) + 2) = true := by simp; omega
              go_wp2_with fail
              refine (rstep_at H6.out.en.rs (H6.out.pr.rok HR0.out) (H6.out.pr.mok HR0.out) H6.out.cnt (ends_bnd2 hm4 hlt hj h16) H6.out.pr.k0 (by have := H6.out.pr.k1; omega)).mono ?_
              rintro e w7 ⟨rfl, hX⟩
              have H7 := hid (H6.out.step HR0.out hj2 hX)
              clear hX
              have ht := er_t H7.out
              generalize (rS s6 r6).2 = r7 at H7 ht ⊢
              generalize (rS s6 r6).1 = s7 at H7
              rw [ht]
              clear ht
              by_cases hl : j + 1 = n + 2
              · have hb : ((j : Int) + 1 == (n : Int) + 2) = true := by simp; omega
                rw [hb]
                go_wp2
                go_roundw
                case rel =>
                  refine ⟨_, _, _, _, _, _, _, _, _, _, _, _, _, _, _, _, _, _, ?_, rfl⟩
                  exact ⟨j + 1, s7, r7, by omega, by go_num, H7.out⟩
                case measure => simp [intOf]; omega
              · have hb : ((j : Int) + 1 == (n : Int) + 2) = false := beq_eq_false_iff_ne.2 (by omega)
                rw [hb]
                go_wp2
                go_roundw
                case rel =>
                  refine ⟨_, _, _, _, _, _, _, _, _, _, _, _, _, _, _, _, _, _, ?_, rfl⟩
                  exact ⟨j + 1, s7, r7, by omega, by go_num, H7.out⟩
                case measure => simp [intOf]; omega
            · have hc : decide ((j : Int) + 1 ≤ (n : Int) + 2) = false := by simp; omega
              have ej : j = n + 2 := by omega
              subst ej
              clear hj hj2
              go_wp2_with fail
              refine (values_yes H6.out.en.rd n H6.out.pr.nn h16 (by rw [H6.out.pr.d]; simp)).mono ?_
              rintro e w8 ⟨rfl, hV8, hB8⟩
              have H8 := hid (H6.out.below hB8)
              have HL8 := hid (ends_lies HV.out HX.out H6.out.pr h16 hV8)
              clear hV8 hB8
              go_wp2_with fail
              refine (same_any HL8.out (HL.out.below H8.out.en.bel)).mono ?_
              rintro e w9 ⟨rfl, K9⟩
              have H9 := hid (H8.out.below K9)
              clear K9 H8 H6 HL8
              go_wp2_with fail
              refine (wstep_at H9.out.en.ws HW.out.1 (by rw [HW.out.2.2.1, HW.out.2.2.2]; have hq := H9.out.pr.mok HR0.out; rw [H9.out.pr.ad, H9.out.pr.nn] at hq; exact hq) H9.out.cnt (ends_bnd2 hm4 hlt (Nat.le_refl _) h16)).mono ?_
              rintro e w10 ⟨rfl, hX⟩
              have hwd : wS s6 x2 = (s6, x2) := by unfold wS; rw [if_pos HW.out.2.1]
              rw [hwd] at hX ⊢
              have htt : (x2.t == x2.e) = true := by rw [HW.out.2.1]; simp
              simp only [htt] at hX ⊢
              have H10 : Hid (Er w w10 (w.heap.size + 1) w.heap.size g h w1.heap.size n k xf x2 (n + 2) s6 r6) := hid ⟨H9.out.en.stepW hX, H9.out.pr, H9.out.cnt⟩
              clear hX hwd htt H9
              go_wp2_with fail
              refine (rstep_at H10.out.en.rs (H10.out.pr.rok HR0.out) (H10.out.pr.mok HR0.out) H10.out.cnt (ends_bnd2 hm4 hlt (Nat.le_refl _) h16) H10.out.pr.k0 (by have := H10.out.pr.k1; omega)).mono ?_
              rintro e w11 ⟨rfl, hX⟩
              have hrd : rS s6 r6 = (s6, r6) := by unfold rS; rw [if_pos (by rw [H10.out.pr.t, H10.out.pr.e]; simp)]
              rw [hrd] at hX ⊢
              have htt : (r6.x.t == r6.x.e) = true := by rw [H10.out.pr.t, H10.out.pr.e]; simp
              simp only [htt] at hX ⊢
              have H11 : Hid (Eo w w11 (w.heap.size + 1) w.heap.size w1.heap.size n (k + 1) s6) := hid (eo_next HR0.out H10.out (H10.out.en.stepR hX) h16 HXL.out)
              clear hX hrd htt H10
              go_wp2
              go_roundw
              case rel => exact ⟨k + 1, s6, by omega, by go_num, H11.out⟩
              case measure => simp [intOf]; omega
    · have ek : k = 1 + m := by omega
      go_wp2_with fail
      refine (known_yes _).mono ?_
      rintro e w9 ⟨rfl, K⟩
      have HF := hid (bel_trans HE.out.ba.bel K)
      clear K HE
      go_wp2
      go_ret
      exact ⟨rfl, HF.out⟩

theorem ends_walk (q : Option Addr) (n c : Nat) (kb : Nat) (vs : List Int) (hm : n ≤ maxLen) (hkb : kb < 256) (w : World) (hvl : vs.length = n) (hvr : ∀ v ∈ vs, 0 ≤ v ∧ v ≤ 18446744073709551615) (hL : n ≤ 16 → Lies w (.slice q n c) vs) :
    Calls Try.prog 4 #[.slice q n c, .int .u8 kb] w fun e w' => e = .returned (.bool true) ∧ Below w.heap.size w w' := by
  by_cases h : n < 1 ∨ 16 < n
  · exact ends_long q n c kb h hm w
  · exact ends_short q n c kb vs (by omega) (by omega) hkb w hvl hvr (hL (by omega))
end Go.Proofs.Ytkdgjgbmbdmmfaa
