/- The walk of TicketSteps: for every number and list the call returns true; nothing that lay before is changed. Condition: the list reads as such. -/
import Derived.Test.YtidgajjahpbbdaaY9
import Derived.Test.YtidgajjahpbbdaaL6
namespace Go.Proofs.Ytidgajjahpbbdaa
open Go.RowKit

theorem info35 : ∃ i, Try.prog.info? 35 = some i ∧ i.zero = some (.pointer none) ∧ i.size = 1 ∧ i.bytes = 8 := by
  have h : (Try.prog.info? 35).map (fun i => (i.zero, i.size, i.bytes)) = some (some (.pointer none), 1, 8) := by kernel_rfl
  obtain ⟨i, hi, hzz⟩ := Option.map_eq_some_iff.1 h
  simp only [Prod.mk.injEq] at hzz
  exact ⟨i, hi, hzz.1, hzz.2.1, hzz.2.2⟩
theorem Sr.same {w0 w : World} {p b : Nat} {X : List (Nat × Obj)} {s : St} {k : Nat} {G : Nat → Nat} {f f' : Nat → Ho} {v : Value} (H : Sr w0 w p b X s k G f v) (e : ∀ i, i < k → f i = f' i) : Sr w0 w p b X s k G f' v :=
  { H with rh := fun i hi => by rw [← e i hi]; exact H.rh i hi }
theorem new_rh (w : World) (x : Ho) (o : Obj) : IsRh ((w.alloc (.cells (rhC x) 38)).alloc o) w.heap.size x ∧ Below w.heap.size w ((w.alloc (.cells (rhC x) 38)).alloc o) := by
  have h : IsRh (w.alloc (.cells (rhC x) 38)) w.heap.size x := heap_alloc_new _ _
  exact ⟨h.below (below_alloc _ _), bel_trans (below_alloc _ _) (below_alloc _ _)⟩
theorem pi_first {k : Nat} {f : Nat → Ho} {a : Int} (h0 : 0 ≤ a) (h1 : a ≤ 65000) (h : ∀ i, i < k → f i = ⟨a, false, 0, 0⟩) : PI 12 ⟨List.replicate 12 0, 0, 0⟩ k f :=
  ⟨rfl, fun v hv => by have := List.eq_of_mem_replicate hv; omega, fun i hi => by rw [h i hi]; exact ⟨h0, h1, by simp, by simp⟩⟩

theorem one_cell35 (w : World) (g : Nat) : ∀ (j : Nat) (u : Value), [ptr g][j]? = some u → (w.alloc (.cells #[.pointer (some ⟨g, 0, none⟩)] 35)).cell? ((⟨w.heap.size, 0, none⟩ : Addr).add j) = some u := cell_one_new w (ptr g) 35

set_option maxRecDepth 100000 in
set_option maxHeartbeats 4000000 in
theorem steps_walk (ya y : Nat) (hya : ya < 256) (hy : y < 256) (pq : Option Addr) (pn pc : Nat) (z : Nat → Nat) (w : World) (hP : PL w pq pn z) :
    Calls Try.prog 3 #[.int .u8 ya, .int .u8 y, .slice pq pn pc] w fun e w' => e = .returned (.bool true) ∧ Below w.heap.size w w' := by
  have HP := hid hP
  have hpm := hP.1
  unfold maxLen at hpm
  clear hP
  obtain ⟨c6, hc6⟩ : ∃ c : Nat, y % 6 = c := ⟨_, rfl⟩
  have hc6b : c6 < 6 := by omega
  have hy0 : (0 : Int) ≤ (y : Int) := by omega
  have hy1 : (y : Int) < 256 := by omega
  have hya0 : (0 : Int) ≤ (ya : Int) := by omega
  have hya1 : (ya : Int) < 256 := by omega
  have htm : (y : Int).tmod 6 = (c6 : Int) := by rw [Int.tmod_eq_emod_of_nonneg (by omega)]; omega
  clear hc6
  go_enter Try.func3, Try.ntmps3
  go_wp2_with fail
  refine (new_yes 12 _ (by decide) (by decide)).mono ?_
  rintro e w1 ⟨rfl, hM1, hB1⟩
  have HM1 := hid hM1
  have HB1 := hid hB1
  have u1 := hM1.lt
  clear hM1 hB1
  go_wp2_with fail
  refine (rnew_yes 12 _ (by decide) (by decide)).mono ?_
  rintro e w2 ⟨rfl, hM2, hB2⟩
  have HM2 := hid hM2
  have HB2 := hid hB2
  have u2 := hM2.lt
  clear hM2 hB2
  go_wp2_with fail
  clear htm
  obtain ⟨k, hk⟩ : ∃ k : Nat, (k : Int) = 1 + (c6 : Int) := ⟨1 + c6, by simp⟩
  have hk0 : 0 < k := by omega
  have hk6 : k ≤ 6 := by omega
  rw [← hk]
  clear hk hc6b
  refine (start_at (w0 := w) (s := ⟨List.replicate 12 0, 0, 0⟩) (ya : Int) k (HM1.out.below HB2.out) (bel_trans HB1.out HB2.out) (by omega) (by omega) (by omega) (by omega) (by omega)).mono ?_
  rintro e w3 ⟨v, G, f, rfl, hS, hf, hG, hv, hB3⟩
  have H0 : Hid (Tw w w3 (w.heap.size + 1) w.heap.size k G v ⟨List.replicate 12 0, 0, 0⟩ f (w1.heap.size + 1) w1.heap.size 0 (fun _ => 0) (.slice none 0 0) ⟨List.replicate 12 0, 0, 0⟩ f) := hid (Tw.first hS HM2.out hB3 hG hv (by omega) (by omega) ⟨by omega, by omega⟩ ⟨by omega, by omega⟩)
  have HF := hid hf
  clear hS hf hG hv hB3 HM1 HB1 HM2 HB2
  have hpw : w.heap.size ≤ w1.heap.size := by omega
  clear u1 u2
  obtain ⟨p, hp⟩ : ∃ p, w.heap.size + 1 = p := ⟨_, rfl⟩
  obtain ⟨b, hb⟩ : ∃ b, w.heap.size = b := ⟨_, rfl⟩
  obtain ⟨p2, hp2⟩ : ∃ p2, w1.heap.size + 1 = p2 := ⟨_, rfl⟩
  obtain ⟨b2, hb2⟩ : ∃ b2, w1.heap.size = b2 := ⟨_, rfl⟩
  have H0' : Hid (Tw w w3 p b k G v ⟨List.replicate 12 0, 0, 0⟩ f p2 b2 0 (fun _ => 0) (.slice none 0 0) ⟨List.replicate 12 0, 0, 0⟩ f) := by rw [← hp, ← hb, ← hp2, ← hb2]; exact H0
  rw [hp, hp2]
  clear H0 hb hb2 hp hp2 hpw
  by_cases hp3 : 300 < pn
  · have hd : decide ((300 : Int) < (pn : Int)) = true := by simp; omega
    go_wp2_with fail
    refine (known_yes _).mono ?_
    rintro e w9 ⟨rfl, K⟩
    have HF := hid (bel_trans H0'.out.a.bel K)
    clear K H0'
    go_wp2
    go_ret
    exact ⟨rfl, HF.out⟩
  · have hd : decide ((300 : Int) < (pn : Int)) = false := by simp; omega
    have hp300 : pn ≤ 300 := by omega
    clear hp3
    go_wp2
    clear hd
    go_loopw [14, 15] (fun u i wr => ∃ (j : Nat) (G' : Nat → Nat) (f' : Nat → Ho), j ≤ k ∧ i = .int .i64 j ∧ Tw w wr p b k G v ⟨List.replicate 12 0, 0, 0⟩ f p2 b2 j G' u ⟨List.replicate 12 0, 0, 0⟩ f' ∧ ∀ i, i < j → f' i = ⟨(ya : Int), false, 0, 0⟩) (fun _ i _ => k - (intOf i).toNat)
    case atStart => exact ⟨0, _, _, Nat.zero_le _, rfl, H0'.out, fun i hi => absurd hi (by omega)⟩
    case round =>
      obtain ⟨j, G', f', hj, rfl, hS, hf'⟩ := hrel
      have HS := hid hS
      have HF' := hid hf'
      clear hS hf' H0'
      by_cases hlt : j < k
      · obtain ⟨i35, hi, hz0, hz1, hz2⟩ := info35
        have hzz : (Value.pointer none).cells.size = 1 := rfl
        obtain ⟨sq, sc, rfl⟩ := HS.out.r.len
        have hNR := new_rh wr ⟨(ya : Int), false, 0, 0⟩ (.cells #[ptr wr.heap.size] 35)
        have HNR := hid hNR
        clear hNR
        go_wp2_with (at_builtin; (refine wpList_append_own_at _ rfl _ _ 34 rfl w.heap.size 35 i35 (.pointer none) 1 8 Try.underlying34 hi hz0 hz1 hz2 hzz (by decide) _ j (ptrs j G') rfl ?o0 ⟨wr.heap.size + 1, 0, none⟩ 1 _ [ptr wr.heap.size] rfl ?c0 ?c1 ?c2 ?c3 ?c4 ?c5 ?_))
        case o0 => exact (HS.out.below HNR.out.2).r.own
        (try case c0 => rfl)
        case c1 => have := one_cell35 (wr.alloc (.cells (rhC ⟨(ya : Int), false, 0, 0⟩) 38)) wr.heap.size; simpa using this
        case c2 => exact one_plain _
        case c3 => unfold maxLen; omega
        case c4 => omega
        case c5 => have := HS.out.a.bel.size; first | omega | (simp; omega)
        intro u' w6 hown hgrow hnil hat
        have H6 := hid (HS.out.push HNR.out.2 (Nat.le_refl _) HNR.out.1 hown hgrow (hat.imp id (fun h => h.trans (by simp))))
        have HF6 : Hid (∀ i, i < j + 1 → upd f' j ⟨(ya : Int), false, 0, 0⟩ i = ⟨(ya : Int), false, 0, 0⟩) := hid (fun i hi => by
          by_cases e : i = j
          · subst e; rw [upd_at]
          · rw [upd_ne _ _ e]; exact HF'.out i (by omega))
        clear hown hgrow hnil hat hi hz0 hz1 hz2 hzz HS HF' HNR
        go_wp2
        go_roundw
        case rel => exact ⟨j + 1, _, _, by omega, by go_num, H6.out, HF6.out⟩
        case measure => simp [intOf]; omega
      · have ek : j = k := by omega
        subst ek
        clear hj hlt
        have hsame : Tw w wr p b j G v ⟨List.replicate 12 0, 0, 0⟩ f p2 b2 j G' u14 ⟨List.replicate 12 0, 0, 0⟩ f := ⟨HS.out.a, HS.out.r.same (fun i hi => (HF'.out i hi).trans (HF.out i hi).symm), HS.out.ap⟩
        have HPI := hid (pi_first hya0 (by omega) HF.out)
        obtain ⟨sq, sc, rfl, hsc, hscm, _⟩ := hsame.a.slice hk0
        obtain ⟨yq, yc, rfl, hyc, hycm, _⟩ := hsame.r.slice hk0
        have HT := hid hsame
        clear hsame HS HF HF'
        go_wp2
        go_loopw [16] (fun i wr => ∃ (a : Nat) (s : St) (f : Nat → Ho), a ≤ pn ∧ i = .int .i64 a ∧ TW w p b j G sq sc p2 b2 G' yq yc s f s f wr ∧ PI 12 s j f ∧ Cnt s a) (fun i _ => pn - (intOf i).toNat)
        case atStart => exact ⟨0, _, _, Nat.zero_le _, rfl, HT.out, HPI.out, ⟨by simp, by simp, by simp, by simp⟩⟩
        case round =>
          obtain ⟨a, s, f, ha, rfl, hO, hPI, hC⟩ := hrel
          have HO := hid hO
          have HPI := hid hPI
          have HC := hid hC
          clear hO hPI hC HT
          by_cases hlt : a < pn
          · obtain ⟨pb, po, rfl, hpb, hpc⟩ := HP.out.2.2 (by omega)
            have pc1 : wr.cell? ⟨pb, po + a, none⟩ = some (.int .u8 (z a : Int)) := (HO.out.a.bel.cell (p := ⟨pb, po + a, none⟩) hpb).trans (hpc a hlt)
            have hz256 := HP.out.2.1 a
            clear hpc
            generalize z a = zj at pc1 hz256
            obtain ⟨i, hi⟩ : ∃ i, (zj / 4) % j = i := ⟨_, rfl⟩
            have hik : i < j := by rw [← hi]; exact Nat.mod_lt _ hk0
            have hi0 : (0 : Int) ≤ (i : Int) := Int.natCast_nonneg i
            have hik2 : (i : Int) < (j : Int) := Int.ofNat_lt.2 hik
            have hkz : ((j : Int) == 0) = false := beq_eq_false_iff_ne.2 (by omega)
            have hz0 : (0 : Int) ≤ (zj : Int) := Int.natCast_nonneg zj
            have hz1 : (zj : Int) < 256 := by omega
            have hdv : (zj : Int).tdiv 4 = ((zj / 4 : Nat) : Int) := by rw [Int.tdiv_eq_ediv_of_nonneg hz0]; simp
            have hd0 : (0 : Int) ≤ ((zj / 4 : Nat) : Int) := Int.natCast_nonneg _
            have hd1 : ((zj / 4 : Nat) : Int) < 64 := by omega
            have htm : ((zj / 4 : Nat) : Int).tmod (j : Int) = (i : Int) := by rw [Int.tmod_eq_emod_of_nonneg hd0, ← hi]; simp
            have hmv : (zj : Int).tmod 4 = ((zj % 4 : Nat) : Int) := by rw [Int.tmod_eq_emod_of_nonneg hz0]; simp
            clear hi
            generalize zj / 4 = zq at *
            have hz4 : zj % 4 < 4 := Nat.mod_lt _ (by decide)
            generalize zj % 4 = zr at *
            have hSw := HO.out.ce i hik
            have hS0 := (HO.out.below (Below.refl _ _).drew).ce i hik
            have hsq : sq < wr.heap.size := World.block_lt_of_cell? wr ⟨sq, i, none⟩ hSw.1
            have hyq : yq < wr.heap.size := World.block_lt_of_cell? wr ⟨yq, i, none⟩ hSw.2
            clear hSw
            by_cases hr : zr = 0
            · subst hr
              obtain ⟨T0, T1, T2, T3, lb, st, tk, hT0, hL, hA, hE⟩ := round_lve HO.out HPI.out HC.out i hik
              have HL := hid hL
              have HA := hid hA
              have HE := hid hE
              clear hL hA hE HO HPI HC
              generalize G i = g at *
              generalize G' i = g' at *
              have hlb : (lb != lb) = false := by simp
              go_wp2_with fail
              go_region_held3 (fun w' => w'.cell? ⟨sq, i, none⟩ = some (.pointer (some ⟨g, 0, none⟩)) ∧ w'.cell? ⟨yq, i, none⟩ = some (.pointer (some ⟨g', 0, none⟩))) (first | with_reducible exact hS0 | with_reducible assumption)
                (first
                  | (go_at_call 12; refine (HL.out.l1 ?_).mono ?_; with_reducible exact hT0; rintro e4 w4 ⟨rfl, hT1, hS1⟩)
                  | (go_at_call 13; refine (HL.out.l2 ?_).mono ?_; with_reducible assumption; rintro e5 w5 ⟨rfl, hT2, hS2⟩))
              clear hT0 hT1 hS1 hS0 pc1 htm hmv hdv hkz
              (try clear hHeld)
              have hcs := hS2
              have hsq5 : sq < w5.heap.size := World.block_lt_of_cell? w5 ⟨sq, i, none⟩ hcs.1
              have hca := hcs.1
              clear hS2 hcs
              go_wp2_with fail
              refine (HA.out.ta hT2).mono ?_
              rintro e w6 ⟨rfl, hT6⟩
              have hS6 := HA.out.cf (HA.out.dr hT6)
              have hT6d := HA.out.dr hT6
              have hyq6 : yq < w6.heap.size := World.block_lt_of_cell? w6 ⟨yq, i, none⟩ (HA.out.cf hT6).1.1
              have hgq6 : g' < w6.heap.size := World.block_lt_of_cell? w6 ⟨g', 1, none⟩ (HA.out.cf hT6).1.2
              have hpq6 : p2 < w6.heap.size := World.block_lt_of_cell? w6 ⟨p2, 0, none⟩ (HA.out.cf hT6).2.2
              clear hT2 hca hT6
              have hss : (st != st) = false := by simp
              have htt : (tk != tk) = false := by simp
              go_wp2_with fail
              go_region_held3 (fun w' => (w'.cell? ⟨yq, i, none⟩ = some (.pointer (some ⟨g', 0, none⟩)) ∧ w'.cell? ⟨g', 1, none⟩ = some (.int .i64 st)) ∧ (w'.cell? ⟨g', 2, none⟩ = some (.int .u64 tk) ∧ w'.cell? ⟨p2, 0, none⟩ = some (.slice (some ⟨b2, 0, none⟩) 12 12))) (first | with_reducible exact hS6 | with_reducible assumption)
                (first
                  | (go_at_call 20; refine (HA.out.w1 ?_).mono ?_; with_reducible exact hT6d; rintro e7 w7 ⟨u, rfl, hT7, hS7⟩)
                  | (go_at_call 19; refine (HA.out.w2 ?_).mono ?_; with_reducible assumption; rintro e8 w8 ⟨rfl, hT8, hS8⟩))
              obtain ⟨s9, f9, h9, hP9, hC9⟩ := HE.out w8 hT8
              have H9 := hid h9
              have HP9 := hid hP9
              have HC9 := hid hC9
              clear hT6d hT7 hS7 hS6 hT8 hS8 h9 hP9 hC9
              go_wp2
              go_roundw
              case rel => exact ⟨a + 1, _, _, by omega, by go_num, H9.out, HP9.out, HC9.out⟩
              case measure => simp [intOf]; omega
            · have hrz : (((zr : Nat) : Int) == 0) = false := beq_eq_false_iff_ne.2 (by omega)
              obtain ⟨T0, T1, T2, T3, ac, st0, st, tk, hT0, hL, hA, hE⟩ := round_stp HO.out HPI.out HC.out (by unfold bnd; omega) i hik
              have HL := hid hL
              have HA := hid hA
              have HE := hid hE
              clear hL hA hE HO HPI HC
              generalize G i = g at *
              generalize G' i = g' at *
              obtain ⟨ak, aad, aa, ab⟩ := ac
              have q1 : (ak == ak) = true := by simp
              have q2 : (aad == aad) = true := by simp
              have q3 : (aa == aa) = true := by simp
              have q4 : (ab == ab) = true := by simp
              have q5 : (ak != ak) = false := by simp
              have q6 : (aad != aad) = false := by simp
              have q7 : (aa != aa) = false := by simp
              have q8 : (ab != ab) = false := by simp
              have q9 : (st0 != st0) = false := by simp
              go_wp2_with fail
              go_region_held3 (fun w' => w'.cell? ⟨sq, i, none⟩ = some (.pointer (some ⟨g, 0, none⟩)) ∧ w'.cell? ⟨yq, i, none⟩ = some (.pointer (some ⟨g', 0, none⟩))) (first | with_reducible exact hS0 | with_reducible assumption)
                (first
                  | (go_at_call 14; refine (HL.out.n1 ?_).mono ?_; with_reducible exact hT0; rintro e2 w2 ⟨rfl, hTa, hSa⟩)
                  | (go_at_call 15; refine (HL.out.n2 ?_).mono ?_; with_reducible exact hTa; rintro e3 w3 ⟨rfl, hTb, hSb⟩)
                  | (go_at_call 16; refine (HL.out.s1 ?_).mono ?_; with_reducible exact hTb; rintro e4 w4 ⟨rfl, hT1, hS1⟩)
                  | (go_at_call 17; refine (HL.out.s2 ?_).mono ?_; with_reducible exact hT1; rintro e5 w5 ⟨rfl, hT2, hS2⟩))
              clear hTa hSa hTb hSb hrz q1 q2 q3 q4 q5 q6 q7 q8 q9
              clear hT0 hT1 hS1 hS0 pc1 htm hmv hdv hkz
              (try clear hHeld)
              have hcs := hS2
              have hsq5 : sq < w5.heap.size := World.block_lt_of_cell? w5 ⟨sq, i, none⟩ hcs.1
              have hca := hcs.1
              clear hS2 hcs
              go_wp2_with fail
              refine (HA.out.ta hT2).mono ?_
              rintro e w6 ⟨rfl, hT6⟩
              have hS6 := HA.out.cf (HA.out.dr hT6)
              have hT6d := HA.out.dr hT6
              have hyq6 : yq < w6.heap.size := World.block_lt_of_cell? w6 ⟨yq, i, none⟩ (HA.out.cf hT6).1.1
              have hgq6 : g' < w6.heap.size := World.block_lt_of_cell? w6 ⟨g', 1, none⟩ (HA.out.cf hT6).1.2
              have hpq6 : p2 < w6.heap.size := World.block_lt_of_cell? w6 ⟨p2, 0, none⟩ (HA.out.cf hT6).2.2
              clear hT2 hca hT6
              have hss : (st != st) = false := by simp
              have htt : (tk != tk) = false := by simp
              go_wp2_with fail
              go_region_held3 (fun w' => (w'.cell? ⟨yq, i, none⟩ = some (.pointer (some ⟨g', 0, none⟩)) ∧ w'.cell? ⟨g', 1, none⟩ = some (.int .i64 st)) ∧ (w'.cell? ⟨g', 2, none⟩ = some (.int .u64 tk) ∧ w'.cell? ⟨p2, 0, none⟩ = some (.slice (some ⟨b2, 0, none⟩) 12 12))) (first | with_reducible exact hS6 | with_reducible assumption)
                (first
                  | (go_at_call 20; refine (HA.out.w1 ?_).mono ?_; with_reducible exact hT6d; rintro e7 w7 ⟨u, rfl, hT7, hS7⟩)
                  | (go_at_call 19; refine (HA.out.w2 ?_).mono ?_; with_reducible assumption; rintro e8 w8 ⟨rfl, hT8, hS8⟩))
              obtain ⟨s9, f9, h9, hP9, hC9⟩ := HE.out w8 hT8
              have H9 := hid h9
              have HP9 := hid hP9
              have HC9 := hid hC9
              clear hT6d hT7 hS7 hS6 hT8 hS8 h9 hP9 hC9
              go_wp2
              go_roundw
              case rel => exact ⟨a + 1, _, _, by omega, by go_num, H9.out, HP9.out, HC9.out⟩
              case measure => simp [intOf]; omega
          · have hjl : decide ((a : Int) < (pn : Int)) = false := by simp; omega
            go_wp2_with fail
            refine (known_yes _).mono ?_
            rintro e w9 ⟨rfl, K⟩
            have HF := hid (bel_trans HO.out.a.bel K)
            clear K HO
            go_wp2
            go_ret
            exact ⟨rfl, HF.out⟩
end Go.Proofs.Ytidgajjahpbbdaa
