/- The walk of SeqlockWhole: for every case the call returns true; nothing that lay before is changed. Condition: the lists of the case read as such. -/
import Derived.Test.YtkdgjgbmbdmmfaaY6
namespace Go.Proofs.Ytkdgjgbmbdmmfaa
open Go.RowKit

theorem row_made (w : World) (n : Nat) (a : Int) : IsRow (w.alloc (.cells (madeCells #[(.int .u64 0 : Value)] n) 36)) w.heap.size (List.replicate 0 a ++ List.replicate (n - 0) 0) := by
  have := heap_alloc_new w (.cells (madeCells #[(.int .u64 0 : Value)] n) 36 (0, 0))
  rw [made_eq] at this
  simpa [IsRow, made_eq] using this

theorem u64w {x : Int} (h0 : 0 ≤ x) (h1 : x ≤ 18446744073709551615) : IntKind.u64.wrap x = x := by
  simp [IntKind.wrap, IntKind.bits, IntKind.signed]; omega
theorem sr_first {w0 w w' : World} {p b g1 g2 : Nat} {X : List (Nat × Obj)} {s : St} {k : Nat} {G : Nat → Nat} {f : Nat → Wr} {v : Value} {r1 r2 : Rd} (H : Sy w0 w p b X s k G f v) (hR1 : IsRd w g1 r1) (hA : Ap p b k G v g1 ∧ (∀ e ∈ X, g1 ≠ e.1) ∧ w0.heap.size ≤ g1) (hR2 : IsRd w' g2 r2) (hg : w.heap.size ≤ g2) (K : Below w.heap.size w w') : Sr w0 w' p b X s k G f v g1 g2 r1 r2 := by
  obtain ⟨a2, x2, y2⟩ := H.apart hg
  have u := hR1.lt
  exact ⟨H.below K, hR1.below K, hR2, hA.1, a2, hA.2.1, x2, hA.2.2, y2, by omega⟩

set_option maxRecDepth 100000 in
set_option maxHeartbeats 4000000 in
theorem whole_walk (c : Cs) (z : Nat → Nat) (w : World) (hV : VL w c.vq c.vn) (hP : PL w c.pq c.pn z) (hz0 : 0 ≤ c.z) (hz1 : c.z < 256) :
    Calls Try.prog 3 #[.agg (csC c)] w fun e w' => e = .returned (.bool true) ∧ Below w.heap.size w w' := by
  have HV := hid hV
  have HP := hid hP
  clear hV hP
  go_enter Try.func3, Try.ntmps3
  go_wp2_with fail
  refine (light_at c _ (vl_below HV.out (below_alloc _ _)) HP.out.1).mono ?_
  rintro e w1 ⟨lb, rfl, hlb, K1⟩
  cases lb
  · have HK := hid (bel_trans (below_alloc w (csO c)) K1)
    clear K1 hlb
    go_wp2_with fail
    refine (known_yes _).mono ?_
    rintro e w2 ⟨rfl, K2⟩
    have HF := hid (bel_trans HK.out K2)
    clear K2 HK
    go_wp2
    go_ret
    exact ⟨rfl, HF.out⟩
  · obtain ⟨hv6, hp300⟩ := hlb rfl
    have HK1 := hid K1
    have cc : w1.heap[w.heap.size]? = some (csO c) := (K1.block _ (lt_of_block (heap_alloc_new w (csO c)))).trans (heap_alloc_new w (csO c))
    clear hlb K1
    obtain ⟨ca, cz, vq, vn, vc, cr, pq, pn, pc, co⟩ := c
    simp only [] at hv6 hp300 hz0 hz1
    have c1 : w1.cell? ⟨w.heap.size, 1, none⟩ = some (.int .u8 cz) := cell_of cc rfl
    have hcl0 := lt_of_block cc
    clear cc
    obtain ⟨zn, rfl⟩ := Int.eq_ofNat_of_zero_le hz0
    obtain ⟨m16, hm16⟩ : ∃ m, zn % 16 = m := ⟨_, rfl⟩
    have hm15 : m16 ≤ 15 := by omega
    have htm : (zn : Int).tmod 16 = (m16 : Int) := by rw [Int.tmod_eq_emod_of_nonneg (by omega)]; omega
    have hwm : (wrap64 (zn : Int)).tmod 16 = (m16 : Int) := by
      have : wrap64 (zn : Int) = zn := by simp (disch := omega) only [IntWalk.wrap64_in]
      rw [this]; exact htm
    clear hm16
    obtain ⟨n, hn⟩ : ∃ n, n = 1 + m16 := ⟨_, rfl⟩
    have h1 : 1 ≤ n := by omega
    have h16 : n ≤ 16 := by omega
    have HN : Hid (1 + (m16 : Int) = (n : Int)) := hid (by omega)
    clear hn
    go_wp2_with fail
    clear htm hwm c1
    refine (new_yes 40 _ (by decide) (by decide)).mono ?_
    rintro e w2 ⟨rfl, hM2, hB2⟩
    rw [HN.out]
    have hS0 := sy_first 5 (n : Int) 40 HK1.out hM2 hB2 (fun _ => 0) (fun _ => ⟨0, 0, 0, 0, 0, []⟩)
    have HS0 := hid hS0
    have HI0 := hid (bi_first 5 n 40 (by omega) (fun _ => ⟨0, 0, 0, 0, 0, []⟩))
    have HW0 := hid (wi_first n 40 (vn : Int) (by omega) (fun _ => ⟨0, 0, 0, 0, 0, []⟩))
    have u1 := hM2.lt
    clear hM2 hB2 hS0
    generalize hC : (⟨ca, (zn : Int), vq, vn, vc, cr, pq, pn, pc, co⟩ : Cs) = C at HS0
    have HC := hid hC
    clear hC HK1 HN hm15
    have hmk := run_make_row' (P := Try.prog) 35 36 (.int .u64 0) 8 Try.underlying35 info36 rfl .i64 .i64 n (by omega) (by omega)
    go_wp2
    go_loopw [7, 8] (fun v i wr => ∃ (k : Nat) (G : Nat → Nat) (f : Nat → Wr), k ≤ vn ∧ i = .int .i64 k ∧ Sy w wr (w1.heap.size + 1) w1.heap.size (fx w2.heap.size 5 n w.heap.size C) ⟨List.replicate 40 0, 0, 0⟩ k G f v ∧ BI 5 n ⟨List.replicate 40 0, 0, 0⟩ k f ∧ WI 5 n vn ⟨List.replicate 40 0, 0, 0⟩ k f) (fun _ i _ => vn - (intOf i).toNat)
    case atStart => exact ⟨0, _, _, Nat.zero_le _, rfl, HS0.out, HI0.out, HW0.out⟩
    case round =>
      obtain ⟨k, G, f, hk, rfl, hS, hI, hW⟩ := hrel
      rename World => wo
      have HS := hid hS
      have HI := hid hI
      have HW := hid hW
      clear hS hI hW HS0 HI0 HW0
      have cc := (HS.out.fix _ (List.mem_cons_of_mem _ (List.mem_cons_self ..))).1
      rw [← HC.out] at cc
      have c2 : wo.cell? ⟨w.heap.size, 2, none⟩ = some (.slice vq vn vc) := cell_of cc rfl
      have c4 : wo.cell? ⟨w.heap.size, 4, none⟩ = some (.slice pq pn pc) := cell_of cc rfl
      have hcl := lt_of_block cc
      clear cc
      by_cases hlt : k < vn
      · have HR0 := hid (row_made wo n ((k : Int) + 1))
        have HB0 := hid (below_alloc wo (.cells (madeCells #[(.int .u64 0 : Value)] n) 36))
        have hws : wo.heap.size < (wo.alloc (.cells (madeCells #[(.int .u64 0 : Value)] n) 36)).heap.size := by simp
        go_wp2
        clear c2 c4
        go_loopw [10] (fun i wx => ∃ m : Nat, m ≤ n ∧ i = .int .i64 m ∧ IsRow wx wo.heap.size (List.replicate m ((k : Int) + 1) ++ List.replicate (n - m) 0) ∧ Below wo.heap.size wo wx) (fun i _ => n - (intOf i).toNat)
        case atStart => exact ⟨0, Nat.zero_le _, rfl, HR0.out, HB0.out⟩
        case round =>
          obtain ⟨m, hm, rfl, hR, hB⟩ := hrel
          have HR := hid hR
          have HB := hid hB
          have hlen : (List.replicate m ((k : Int) + 1) ++ List.replicate (n - m) 0).length = n := by simp; omega
          by_cases hmn : m < n
          · have cm := hR.cell m (by rw [hlen]; exact hmn)
            have fm := hR.free m
            have hrl := hR.lt
            generalize (List.replicate m ((k : Int) + 1) ++ List.replicate (n - m) 0).getD m 0 = old at cm
            have hm0 : (0 : Int) ≤ (m : Int) := Int.natCast_nonneg m
            have hm1 : (m : Int) < (n : Int) := Int.ofNat_lt.2 hmn
            clear hR hB hlen HR0 HB0 hws
            go_wp2
            go_roundw
            case rel => exact ⟨m + 1, by omega, by go_num, by rw [← fill_set n m _ hmn]; exact HR.out.set m _, below_set HB.out _ _ _ (Nat.le_refl _)⟩
            case measure => simp [intOf]; omega
          · have em : m = n := by omega
            subst em
            clear hmn hm hlen HR0 HB0 hws
            have hS5 := HS.out.below hB
            have cl := (hS5.fix _ (List.mem_cons_self ..)).1
            have l0 : wr.cell? ⟨w2.heap.size, 0, none⟩ = some (.int .i64 5) := cell_of cl rfl
            have l1 : wr.cell? ⟨w2.heap.size, 1, none⟩ = some (.int .i64 (m : Int)) := cell_of cl rfl
            have hll := lt_of_block cl
            have HLI : Hid (Lies wr (.slice (some ⟨wo.heap.size, 0, none⟩) m m) (List.replicate m ((k : Int) + 1))) := hid (by
              have hR2 : IsRow wr wo.heap.size (List.replicate m ((k : Int) + 1)) := by simpa using hR
              exact hR2.lies (by simp) (by omega))
            clear cl hR hB hS5 HR
            go_wp2_with fail
            refine (write_at _ 5 m m _ (List.replicate m ((k : Int) + 1)) (by simp) h1 h16 (by decide) (by decide) HLI.out).mono ?_
            rintro e w4 ⟨g, rfl, hW4, hg4, hB4⟩
            have HB5 := hid (HB.out.trans (hB4.mono HB.out.size))
            have hg5 : wo.heap.size ≤ g := by have := HB.out.size; omega
            have HW4 := hid hW4
            obtain ⟨i37, hi, hz0', hz1', hz2'⟩ := info37
            have hzz : (Value.pointer none).cells.size = 1 := rfl
            clear hW4 hB4 hg4 l0 l1 HLI
            obtain ⟨sq, sc, rfl⟩ := HS.out.len
            go_wp2_with (at_builtin; (refine wpList_append_own_at _ rfl _ _ 34 rfl w.heap.size 37 i37 (.pointer none) 1 8 Try.underlying34 hi hz0' hz1' hz2' hzz (by decide) _ k (ptrs k G) rfl ?o0 ⟨w4.heap.size, 0, none⟩ 1 _ [ptr g] rfl ?c0 ?c1 ?c2 ?c3 ?c4 ?c5 ?_))
            case o0 => exact (HS.out.below (zkeep HB5.out _)).own
            case c0 => rfl
            case c1 => exact one_cell w4 g
            case c2 => exact one_plain g
            case c3 => unfold maxLen; omega
            case c4 => omega
            case c5 => exact Nat.le_trans HS.out.bel.size (zkeep HB5.out _).size
            intro v' w6 hown hgrow hnil hat
            have H6 := hid (HS.out.push (zkeep HB5.out (.cells #[ptr g] 37)) hg5 (HW4.out.below (below_alloc _ _)) hown hgrow (hat.imp id (fun h => h.trans (by simp))))
            have I6 := hid (HI.out.push _ (whole_wok m h1 h16 _) rfl rfl rfl (whole_rng m ((k : Int) + 1) (by omega) (by omega)))
            have W6 := hid (HW.out.push ⟨5, m, 0, 2 + (m : Int) + 1, 0, List.replicate m ((k : Int) + 1) ++ List.replicate (16 - m) 0⟩ rfl (whole_alike m ((k : Int) + 1) vn (by omega) (by omega)))
            clear hown hgrow hnil hat hi hz0' hz1' hz2' hzz HB5 HW4 HS HI HW hg5
            go_wp2
            go_roundw
            case rel => exact ⟨k + 1, _, _, by omega, by go_num, H6.out, I6.out, W6.out⟩
            case measure => simp [intOf]; omega
      · have ek : k = vn := by omega
        subst ek
        clear hk hlt
        have cl := (HS.out.fix _ (List.mem_cons_self ..)).1
        have l0 : wo.cell? ⟨w2.heap.size, 0, none⟩ = some (.int .i64 5) := cell_of cl rfl
        have l1 : wo.cell? ⟨w2.heap.size, 1, none⟩ = some (.int .i64 (n : Int)) := cell_of cl rfl
        have hll := lt_of_block cl
        clear cl hmk
        go_wp2_with fail
        refine (read_at _ 5 n (by omega) (by omega) (by decide) (by decide)).mono ?_
        rintro e w4 ⟨g1, rfl, hR4, hg4, hB4⟩
        have hS4 := HS.out.below hB4
        obtain ⟨a1, x1, y1⟩ := HS.out.apart hg4
        have cl := (hS4.fix _ (List.mem_cons_self ..)).1
        have l2 : w4.cell? ⟨w2.heap.size, 0, none⟩ = some (.int .i64 5) := cell_of cl rfl
        have l3 : w4.cell? ⟨w2.heap.size, 1, none⟩ = some (.int .i64 (n : Int)) := cell_of cl rfl
        have HS4 := hid hS4
        have HR4 := hid hR4
        have HA1 := hid (And.intro a1 (And.intro x1 y1))
        clear cl hS4 hR4 a1 x1 y1 hB4 hg4 l0 l1 hll
        go_wp2_with fail
        refine (read_at _ 5 n (by omega) (by omega) (by decide) (by decide)).mono ?_
        rintro e w5 ⟨g2, rfl, hR5, hg5, hB5⟩
        have H5 : Hid (Sr w w5 (w1.heap.size + 1) w1.heap.size (fx w2.heap.size 5 n w.heap.size C) ⟨List.replicate 40 0, 0, 0⟩ k G f u7 g1 g2 ⟨⟨5, n, 0, 1 + (n : Int) + 1, 0, List.replicate 16 0⟩, 0, false⟩ ⟨⟨5, n, 0, 1 + (n : Int) + 1, 0, List.replicate 16 0⟩, 0, false⟩) := hid (sr_first HS4.out HR4.out HA1.out hR5 hg5 hB5)
        have P5 : Hid (Pu n k 0 0 ⟨List.replicate 40 0, 0, 0⟩ k f ⟨⟨5, n, 0, 1 + (n : Int) + 1, 0, List.replicate 16 0⟩, 0, false⟩ ⟨⟨5, n, 0, 1 + (n : Int) + 1, 0, List.replicate 16 0⟩, 0, false⟩) := hid ⟨HI.out, HW.out, ri_first n k _ h1 h16, ri_first n k _ h1 h16, ⟨by simp, by simp, by simp, by simp⟩, by simp, by simp, by simp⟩
        clear hR5 hg5 hB5 HS4 HR4 HA1 HS HI HW l2 l3 c2 c4 hcl
        go_wp2
        go_loopw [14] (fun i wr => ∃ (j : Nat) (s : St) (f : Nat → Wr) (r1 r2 : Rd), j ≤ pn ∧ i = .int .i64 j ∧ Sr w wr (w1.heap.size + 1) w1.heap.size (fx w2.heap.size 5 n w.heap.size C) s k G f u7 g1 g2 r1 r2 ∧ Pu n k j (3 * j) s k f r1 r2) (fun i _ => pn - (intOf i).toNat)
        case atStart => exact ⟨0, _, _, _, _, Nat.zero_le _, rfl, H5.out, P5.out⟩
        case round =>
          obtain ⟨j, s, f1, r1, r2, hj, rfl, hSr, hPu⟩ := hrel
          have HS := hid hSr
          have HQ := hid hPu
          clear hSr hPu H5 P5
          have cc := (HS.out.sy.fix _ (List.mem_cons_of_mem _ (List.mem_cons_self ..))).1
          rw [← HC.out] at cc
          have d2 : wr.cell? ⟨w.heap.size, 2, none⟩ = some (.slice vq k vc) := cell_of cc rfl
          have d4 : wr.cell? ⟨w.heap.size, 4, none⟩ = some (.slice pq pn pc) := cell_of cc rfl
          have hcl2 := lt_of_block cc
          clear cc
          by_cases hlt : j < pn
          · obtain ⟨sq, sc, rfl⟩ := HS.out.sy.len
            obtain ⟨pb, po, rfl, hpb, hpc⟩ := HP.out.2.2 (by omega)
            have pc1 : wr.cell? ⟨pb, po + j, none⟩ = some (.int .u8 (z j : Int)) := (HS.out.sy.bel.cell (p := ⟨pb, po + j, none⟩) hpb).trans (hpc j hlt)
            clear hpc
            obtain ⟨i, hi⟩ : ∃ i, z j % (k + 2) = i := ⟨_, rfl⟩
            have hik : i < k + 2 := by rw [← hi]; exact Nat.mod_lt _ (by omega)
            have hz256 := HP.out.2.1 j
            have hi0 : (0 : Int) ≤ (i : Int) := Int.natCast_nonneg i
            have hkz : ((k : Int) + 2 == 0) = false := beq_eq_false_iff_ne.2 (by omega)
            have hjl : decide ((j : Int) < (pn : Int)) = true := by simp; omega
            have htm : (z j : Int).tmod ((k : Int) + 2) = (i : Int) := by rw [Int.tmod_eq_emod_of_nonneg (by omega), ← hi]; simp
            have hwm : (wrap64 (z j : Int)).tmod ((k : Int) + 2) = (i : Int) := by
              have : wrap64 (z j : Int) = (z j : Int) := by simp (disch := omega) only [IntWalk.wrap64_in]
              rw [this]; exact htm
            clear hi
            go_wp2_with fail
            clear htm hwm hkz pc1 d4 d2
            refine (load_any HS.out.sy.mem HQ.out.cnt (by unfold bnd; omega) 5).mono ?_
            rintro e w6 ⟨rfl, hT⟩
            have hlv : loadV s 5 = s.xs.getD 5 0 := loadV_at (A := 5) rfl (by have := HQ.out.bi.fit; omega)
            have HS6 := hid (HS.out.load hT)
            have HQ6 := hid (HQ.out.mem (loadT_xs s 5) (HQ.out.cnt.load 5))
            have hN0 := (rng_get HQ.out.bi.rng 5).1
            have hNj := HQ.out.num
            have hxx := loadT_xs s 5
            rw [hlv]
            clear hT hlv HS HQ hcl2
            generalize loadT s 5 = s6 at HS6 HQ6 hxx
            rw [← hxx] at hN0 hNj ⊢
            clear hxx
            obtain ⟨N, hN⟩ : ∃ N, s6.xs.getD 5 0 = N := ⟨_, rfl⟩
            rw [hN] at hN0 hNj ⊢
            have HN := hid hN
            clear hN
            by_cases hc : i < k
            · obtain ⟨q, c, hqe, _, _, hsl⟩ := HS6.out.sy.slice (by omega)
              simp only [Value.slice.injEq] at hqe
              obtain ⟨rfl, _, rfl⟩ := hqe
              have si := hsl i hc
              unfold ptr at si
              have hsq : q < w6.heap.size := World.block_lt_of_cell? w6 ⟨q, i, none⟩ si
              have hc1 : decide ((i : Int) < (k : Int)) = true := by simp; omega
              have hik2 : (i : Int) < (k : Int) := Int.ofNat_lt.2 hc
              clear hsl
              go_wp2_with fail
              refine (wstep_at (HS6.out.sy.ws i hc) (HQ6.out.bi.ok i hc) (HQ6.out.bi.mok i hc) HQ6.out.cnt (by unfold bnd; omega)).mono ?_
              rintro e w7 ⟨rfl, hX⟩
              have HS7 := hid (HS6.out.stepW i hc hX)
              obtain ⟨q7, hN1, hN2⟩ := HQ6.out.stepW (by omega) i hc
              rw [HN.out] at hN1 hN2
              have HQ7 := hid q7
              clear hX q7 si HS6 HQ6 hc1
              generalize upd f1 i (wS s6 (f1 i)).2 = f7 at HS7 HQ7
              generalize (wS s6 (f1 i)).1 = s7 at HS7 HQ7 hN1 hN2
              generalize ((wS s6 (f1 i)).2.t == (wS s6 (f1 i)).2.e) = b7
              generalize r1 = r71 at HS7 HQ7
              generalize r2 = r72 at HS7 HQ7
              go_wp2_with fail
              refine (load_any HS7.out.sy.mem HQ7.out.cnt (by unfold bnd; omega) 5).mono ?_
              rintro e w8 ⟨rfl, hT⟩
              have hlv7 : loadV s7 5 = s7.xs.getD 5 0 := loadV_at (A := 5) rfl (by have := HQ7.out.bi.fit; omega)
              have HS8 := hid (HS7.out.load hT)
              have HQ8 := hid (HQ7.out.mem (loadT_xs s7 5) (HQ7.out.cnt.load 5))
              have hM0 := (rng_get HQ7.out.bi.rng 5).1
              rw [hlv7]
              clear hT hlv7 HS7 HQ7
              generalize s7.xs.getD 5 0 = M at hN1 hN2 hM0 ⊢
              generalize loadT s7 5 = s8 at HS8 HQ8
              have hc1 : decide (M < N) = false := by simp; omega
              have hc2 : decide (N + 1 < M) = false := by simp; omega
              have hc3 : IntKind.u64.wrap (N + 1) = N + 1 := u64w (by omega) (by omega)
              have cc := (HS8.out.sy.fix _ (List.mem_cons_of_mem _ (List.mem_cons_self ..))).1
              rw [← HC.out] at cc
              have e2 : w8.cell? ⟨w.heap.size, 2, none⟩ = some (.slice vq k vc) := cell_of cc rfl
              have hcl3 := lt_of_block cc
              clear cc
              go_wp2_with fail
              refine (whole_at HS8.out.rd1 n k h1 h16 (by omega) HQ8.out.i1).mono ?_
              rintro e w9 ⟨rfl, K9⟩
              have HS9 := hid (HS8.out.below K9)
              have cc := (HS9.out.sy.fix _ (List.mem_cons_of_mem _ (List.mem_cons_self ..))).1
              rw [← HC.out] at cc
              have e3 : w9.cell? ⟨w.heap.size, 2, none⟩ = some (.slice vq k vc) := cell_of cc rfl
              have hcl4 := lt_of_block cc
              clear cc K9 HS8 e2
              go_wp2_with fail
              refine (whole_at HS9.out.rd2 n k h1 h16 (by omega) HQ8.out.i2).mono ?_
              rintro e w10 ⟨rfl, K10⟩
              have HS10 := hid (HS9.out.below K10)
              clear K10 HS9 e3 hc1 hc2 hc3
              go_wp2
              go_roundw
              case rel => exact ⟨j + 1, s8, f7, r71, r72, by omega, by go_num, HS10.out, by rw [show 3 * (j + 1) = 3 * j + 1 + 1 + 1 by omega]; exact HQ8.out⟩
              case measure => simp [intOf]; omega
            · have hc1 : decide ((i : Int) < (k : Int)) = false := by simp; omega
              by_cases hck : i = k
              · have hc2 : ((i : Int) == (k : Int)) = true := by simp [hck]
                go_wp2_with fail
                refine (rstep_at HS6.out.rs1 HQ6.out.i1.rok (HQ6.out.i1.mok HQ6.out.bi) HQ6.out.cnt (by unfold bnd; omega) HQ6.out.k1.1 (by have := HQ6.out.k1.2; omega)).mono ?_
                rintro e w7 ⟨rfl, hX⟩
                have HS7 := hid (HS6.out.step1 hX)
                obtain ⟨q7, hxx⟩ := HQ6.out.step1
                have hN1 : N ≤ (rS s6 r1).1.xs.getD 5 0 := by rw [hxx, HN.out]; omega
                have hN2 : (rS s6 r1).1.xs.getD 5 0 ≤ N + 1 := by rw [hxx, HN.out]; omega
                have HQ7 := hid q7
                clear hX q7 hxx HS6 HQ6 hc1 hc2
                generalize (rS s6 r1).2 = r71 at HS7 HQ7 ⊢
                generalize (rS s6 r1).1 = s7 at HS7 HQ7 hN1 hN2
                generalize (r71.x.t == r71.x.e) = b7
                generalize f1 = f7 at HS7 HQ7
                generalize r2 = r72 at HS7 HQ7
                go_wp2_with fail
                refine (load_any HS7.out.sy.mem HQ7.out.cnt (by unfold bnd; omega) 5).mono ?_
                rintro e w8 ⟨rfl, hT⟩
                have hlv7 : loadV s7 5 = s7.xs.getD 5 0 := loadV_at (A := 5) rfl (by have := HQ7.out.bi.fit; omega)
                have HS8 := hid (HS7.out.load hT)
                have HQ8 := hid (HQ7.out.mem (loadT_xs s7 5) (HQ7.out.cnt.load 5))
                have hM0 := (rng_get HQ7.out.bi.rng 5).1
                rw [hlv7]
                clear hT hlv7 HS7 HQ7
                generalize s7.xs.getD 5 0 = M at hN1 hN2 hM0 ⊢
                generalize loadT s7 5 = s8 at HS8 HQ8
                have hc1 : decide (M < N) = false := by simp; omega
                have hc2 : decide (N + 1 < M) = false := by simp; omega
                have hc3 : IntKind.u64.wrap (N + 1) = N + 1 := u64w (by omega) (by omega)
                have cc := (HS8.out.sy.fix _ (List.mem_cons_of_mem _ (List.mem_cons_self ..))).1
                rw [← HC.out] at cc
                have e2 : w8.cell? ⟨w.heap.size, 2, none⟩ = some (.slice vq k vc) := cell_of cc rfl
                have hcl3 := lt_of_block cc
                clear cc
                go_wp2_with fail
                refine (whole_at HS8.out.rd1 n k h1 h16 (by omega) HQ8.out.i1).mono ?_
                rintro e w9 ⟨rfl, K9⟩
                have HS9 := hid (HS8.out.below K9)
                have cc := (HS9.out.sy.fix _ (List.mem_cons_of_mem _ (List.mem_cons_self ..))).1
                rw [← HC.out] at cc
                have e3 : w9.cell? ⟨w.heap.size, 2, none⟩ = some (.slice vq k vc) := cell_of cc rfl
                have hcl4 := lt_of_block cc
                clear cc K9 HS8 e2
                go_wp2_with fail
                refine (whole_at HS9.out.rd2 n k h1 h16 (by omega) HQ8.out.i2).mono ?_
                rintro e w10 ⟨rfl, K10⟩
                have HS10 := hid (HS9.out.below K10)
                clear K10 HS9 e3 hc1 hc2 hc3
                go_wp2
                go_roundw
                case rel => exact ⟨j + 1, s8, f7, r71, r72, by omega, by go_num, HS10.out, by rw [show 3 * (j + 1) = 3 * j + 1 + 1 + 1 by omega]; exact HQ8.out⟩
                case measure => simp [intOf]; omega
              · have hc2 : ((i : Int) == (k : Int)) = false := beq_eq_false_iff_ne.2 (by omega)
                go_wp2_with fail
                refine (rstep_at HS6.out.rs2 HQ6.out.i2.rok (HQ6.out.i2.mok HQ6.out.bi) HQ6.out.cnt (by unfold bnd; omega) HQ6.out.k2.1 (by have := HQ6.out.k2.2; omega)).mono ?_
                rintro e w7 ⟨rfl, hX⟩
                have HS7 := hid (HS6.out.step2 hX)
                obtain ⟨q7, hxx⟩ := HQ6.out.step2
                have hN1 : N ≤ (rS s6 r2).1.xs.getD 5 0 := by rw [hxx, HN.out]; omega
                have hN2 : (rS s6 r2).1.xs.getD 5 0 ≤ N + 1 := by rw [hxx, HN.out]; omega
                have HQ7 := hid q7
                clear hX q7 hxx HS6 HQ6 hc1 hc2
                generalize (rS s6 r2).2 = r72 at HS7 HQ7 ⊢
                generalize (rS s6 r2).1 = s7 at HS7 HQ7 hN1 hN2
                generalize (r72.x.t == r72.x.e) = b7
                generalize f1 = f7 at HS7 HQ7
                generalize r1 = r71 at HS7 HQ7
                go_wp2_with fail
                refine (load_any HS7.out.sy.mem HQ7.out.cnt (by unfold bnd; omega) 5).mono ?_
                rintro e w8 ⟨rfl, hT⟩
                have hlv7 : loadV s7 5 = s7.xs.getD 5 0 := loadV_at (A := 5) rfl (by have := HQ7.out.bi.fit; omega)
                have HS8 := hid (HS7.out.load hT)
                have HQ8 := hid (HQ7.out.mem (loadT_xs s7 5) (HQ7.out.cnt.load 5))
                have hM0 := (rng_get HQ7.out.bi.rng 5).1
                rw [hlv7]
                clear hT hlv7 HS7 HQ7
                generalize s7.xs.getD 5 0 = M at hN1 hN2 hM0 ⊢
                generalize loadT s7 5 = s8 at HS8 HQ8
                have hc1 : decide (M < N) = false := by simp; omega
                have hc2 : decide (N + 1 < M) = false := by simp; omega
                have hc3 : IntKind.u64.wrap (N + 1) = N + 1 := u64w (by omega) (by omega)
                have cc := (HS8.out.sy.fix _ (List.mem_cons_of_mem _ (List.mem_cons_self ..))).1
                rw [← HC.out] at cc
                have e2 : w8.cell? ⟨w.heap.size, 2, none⟩ = some (.slice vq k vc) := cell_of cc rfl
                have hcl3 := lt_of_block cc
                clear cc
                go_wp2_with fail
                refine (whole_at HS8.out.rd1 n k h1 h16 (by omega) HQ8.out.i1).mono ?_
                rintro e w9 ⟨rfl, K9⟩
                have HS9 := hid (HS8.out.below K9)
                have cc := (HS9.out.sy.fix _ (List.mem_cons_of_mem _ (List.mem_cons_self ..))).1
                rw [← HC.out] at cc
                have e3 : w9.cell? ⟨w.heap.size, 2, none⟩ = some (.slice vq k vc) := cell_of cc rfl
                have hcl4 := lt_of_block cc
                clear cc K9 HS8 e2
                go_wp2_with fail
                refine (whole_at HS9.out.rd2 n k h1 h16 (by omega) HQ8.out.i2).mono ?_
                rintro e w10 ⟨rfl, K10⟩
                have HS10 := hid (HS9.out.below K10)
                clear K10 HS9 e3 hc1 hc2 hc3
                go_wp2
                go_roundw
                case rel => exact ⟨j + 1, s8, f7, r71, r72, by omega, by go_num, HS10.out, by rw [show 3 * (j + 1) = 3 * j + 1 + 1 + 1 by omega]; exact HQ8.out⟩
                case measure => simp [intOf]; omega
          · have hjl : decide ((j : Int) < (pn : Int)) = false := by simp; omega
            go_wp2_with fail
            refine (known_yes _).mono ?_
            rintro e w9 ⟨rfl, K⟩
            have HF := hid (bel_trans HS.out.sy.bel K)
            clear K HS HQ
            go_wp2
            go_ret
            exact ⟨rfl, HF.out⟩
end Go.Proofs.Ytkdgjgbmbdmmfaa
