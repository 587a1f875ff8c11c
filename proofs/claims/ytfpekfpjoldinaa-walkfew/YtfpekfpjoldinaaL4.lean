/- The walk of WalkFew: for every words, every page and every other word it returns true; nothing that lay before is changed. No conditions but the numbers' sizes. -/
import Derived.Test.YtfpekfpjoldinaaK
namespace Go.Proofs.Ytfpekfpjoldinaa
open Go.RowKit

theorem all_s {w0 w : World} {p b : Nat} {s : St} (m : Mem 76 w p b s) (bel : Below w0.heap.size w0 w) (p0 : w0.heap.size ≤ p) (b0 : w0.heap.size ≤ b) (c : Cnt s 200) (u : U64 s.xs) (root pg wt : Int) (l1 : -9223372036854775808 ≤ wt) (l2 : wt ≤ 9223372036854775807) :
    Calls Try.prog 10 #[.pointer (some ⟨p, 0, none⟩), .int .i64 root, .int .i64 pg, .int .i64 wt] w fun e w' => e = .returned (fdV (fAll s.xs root pg wt)) ∧ (∃ s', Mem 76 w' p b s' ∧ Lds s s' 4 ∧ Kn w0 w' p b s.xs 204) ∧ But p b w w' :=
  (all_at m c (by unfold bnd; omega) u root pg wt l1 l2).mono fun e w' ⟨a, ⟨s', m', d'⟩, f⟩ => ⟨a, ⟨s', m', d', ⟨bel.trans (f.below bel.size p0 b0), p0, b0, s', m', d'.xs, d'.cnt c⟩⟩, f⟩
theorem step_f {w0 w : World} {p b g n : Nat} {x : Wk} {xs : List Int} {r : Fd} {l : List Int} (h : Kn w0 w p b xs n) (hx : IsWk w g x) (i : Wi xs r l x) (hn : n ≤ bnd) (hp : g ≠ p) (hb : g ≠ b) (hg : w0.heap.size ≤ g) (u : U64 xs) :
    Calls Try.prog 15 #[.pointer (some ⟨g, 0, none⟩), .pointer (some ⟨p, 0, none⟩)] w fun e w' => ∃ y, (∃ bb, e = .returned (.bool bb)) ∧ IsWk w' g y ∧ ((Wi xs r l y ∧ y.lv = x.lv - 1) ∨ Wd r l y) ∧ Kn w0 w' p b xs (n + 1) ∧ But3 g p b w w' := by
  obtain ⟨s, m, rfl, c⟩ := h.mem
  refine (step_any (s := s) ⟨m, hx, hp, hb⟩ i c hn u).mono ?_
  rintro e w' ⟨s', y, ⟨e1, -⟩, h1, h2, h3, h4⟩
  exact ⟨y, ⟨_, e1⟩, h1.wk, h4, ⟨h3.bel h.bel hg h.p0 h.b0, h.p0, h.b0, s', h1.mem, h2.xs, h2.cnt c⟩, h3⟩
theorem But3.stay {p b g k : Nat} {w w' : World} {o : Obj} (h : But3 g p b w w') (a : w.heap[k]? = some o) (h0 : k ≠ g) (h1 : k ≠ p) (h2 : k ≠ b) : w'.heap[k]? = some o := (h.block k (lt_of_block a) h0 h1 h2).trans a
/-- Another word is laid: what is found stays. -/
theorem store_k {w0 w : World} {p b n : Nat} {xs : List Int} (h : Kn w0 w p b xs n) (hn : n ≤ bnd) (u : U64 xs) (a x g : Int) (x0 : 0 ≤ x) (x1 : x < 18446744073709551616) (ha : ∀ i, i < (pathF xs g 0 3 0).length → a ≠ P.at' ((pathF xs g 0 3 0).getD i 0) g (3 - i)) (r : Fd) (hr : runF xs g 0 3 0 = r) (ok : okW 0 g 0 = true) :
    Calls Try.prog 19 #[.pointer (some ⟨p, 0, none⟩), .int .i64 a, .int .u64 x] w fun e w' => ∃ er xs', e = .returned (.int .i64 er) ∧ Kn w0 w' p b xs' (n + 1) ∧ U64 xs' ∧ fAll xs' 0 g 0 = r ∧ But p b w w' := by
  obtain ⟨s, m, rfl, c⟩ := h.mem
  refine (store_any m c hn a x).mono ?_
  rintro e w' ⟨rfl, m', k⟩
  refine ⟨_, _, rfl, ⟨h.bel.trans (k.below h.bel.size h.p0 h.b0), h.p0, h.b0, _, m', rfl, c.store _ _⟩, u.store a x x0 x1, ?_, k⟩
  unfold fAll
  rw [if_pos ok, runF_store 3 0 ha, hr]

abbrev S4 (f : Nat) (rf rr rv re : Int) (w' : World) : Prop := w'.cell? ⟨f, 0, none⟩ = some (.int .i64 rf) ∧ w'.cell? ⟨f, 1, none⟩ = some (.int .i64 rr) ∧ w'.cell? ⟨f, 2, none⟩ = some (.int .i64 rv) ∧ w'.cell? ⟨f, 3, none⟩ = some (.int .i64 re)
theorem S4.of {f : Nat} {rf rr rv re : Int} {w : World} (h : w.heap[f]? = some (.cells #[.int .i64 rf, .int .i64 rr, .int .i64 rv, .int .i64 re] 32 (0, 0))) : S4 f rf rr rv re w := ⟨cell_of h rfl, cell_of h rfl, cell_of h rfl, cell_of h rfl⟩
theorem ints_at {l : List Int} {i : Nat} (h : i < l.length) : (ints l).toArray[i]? = some (.int .i64 (l.getD i 0)) := by simp [ints, List.getD, h]
set_option maxRecDepth 100000 in
set_option maxHeartbeats 4000000 in
theorem few_walk {w : World} {v : Value} {l0 : List (Int × Int)} (h : Wl w v l0) (hv : V64 l0) (n : Nat) (ln : n ≤ 65535) (a x : Int) (x0 : 0 ≤ x) (x1 : x < 18446744073709551616) :
    Calls Try.prog 4 #[v, .int .u16 n, .agg #[.int .i64 a, .int .u64 x]] w fun e w' => e = .returned (.bool true) ∧ Below w.heap.size w w' := by
  have e2 : IntKind.i64.wrap (n : Int) = n := i64w (by omega) (by omega)
  have HV := hid (both_at (h.below' (below_alloc w (.cells #[.int .i64 a, .int .u64 x] 40))))
  have HU : Hid (U64 (bothS l0).xs) := hid (bothS_u64 hv)
  have HC := hid (bothS_cnt l0)
  have hok : okW 0 (n : Int) 0 = true := by
    unfold okW
    rw [P.btw_t (by decide) (by decide), P.btw_t (by omega) (by omega), P.btw_t (by decide) (by decide)]
    rfl
  have OK := hid hok
  have HN := hid (fun W => wnew_at W 0 (n : Int) 0 (by decide) (by decide) hok)
  have HI := hid (Wi.new (xs := (bothS l0).xs) hok)
  have HF : Hid (fAll (bothS l0).xs 0 n 0 = runF (bothS l0).xs n 0 3 0) := hid (by unfold fAll; rw [if_pos hok])
  obtain ⟨l', hl', hl3⟩ := pathF_pos (bothS l0).xs (n : Int) 0 3 0
  have hlv3 : (newW 0 (n : Int) 0).lv = 3 := rfl
  clear h hv hok ln
  generalize bothS l0 = s at *
  generalize newW 0 (n : Int) 0 = y0 at *
  obtain ⟨l, hl⟩ : ∃ l, pathF s.xs n 0 3 0 = l := ⟨_, rfl⟩
  obtain ⟨⟨rf, rr, rv, re⟩, hr⟩ : ∃ r, runF s.xs n 0 3 0 = r := ⟨_, rfl⟩
  have HL := hid hl
  have HR := hid hr
  rw [hl] at hl' HI
  rw [hr] at HI HF
  have hm0 : l.getD 0 0 = 0 := by rw [hl']; rfl
  have hm1 : 1 ≤ l.length := by rw [hl']; simp
  have hm4 : l.length ≤ 4 := by rw [hl']; simp; omega
  clear hl hr hl' hl3 l'
  go_enter Try.func4, Try.ntmps4
  go_wp2_with fail
  refine HV.out.mono ?_
  rintro e w1 ⟨p, b, q, c, rfl, hB⟩
  have hpb0 := hB.p0
  have hbb0 := hB.b0
  simp at hpb0 hbb0
  have M1 := hid hB.pm
  have B1 : Hid (Below w.heap.size w w1) := hid ((below_alloc w _).trans (hB.bel.mono (by simp)))
  have O1 : Hid (w1.heap[w.heap.size]? = some (.cells #[.int .i64 a, .int .u64 x] 40 (0, 0))) := hid (P.stay hB.bel (heap_alloc_new w _))
  clear hB HV
  go_wp2_with fail
  refine (HN.out _).mono ?_
  rintro e w2 ⟨rfl, hw2⟩
  have HX2 : Hid (IsWk w2 w1.heap.size y0) := hid (by rw [hw2]; exact heap_alloc_new _ _)
  have b2 : Below w1.heap.size w1 w2 := by rw [hw2]; exact below_alloc _ _
  have M2 := hid (M1.out.below b2)
  have B2 := hid (bel_trans B1.out b2)
  have O2 := hid (P.stay b2 O1.out)
  have hgp : w1.heap.size ≠ p := by have := M1.out.lt; omega
  have hgb : w1.heap.size ≠ b := by have := M1.out.lt; omega
  have hgo : w.heap.size ≠ w1.heap.size := by have := lt_of_block O1.out; omega
  have hg0 : Hid (w.heap.size ≤ w1.heap.size) := hid B1.out.size
  clear hw2 b2 M1 B1 O1 HN
  generalize w1.heap.size = g at *
  go_wp2_with fail
  refine (count_at M2.out).mono ?_
  rintro e w3 ⟨rfl, hB⟩
  have HX3 := hid (HX2.out.below hB)
  have M3 := hid (M2.out.below hB)
  have B3 := hid (bel_trans B2.out hB)
  have O3 := hid (P.stay hB O2.out)
  clear hB HX2 M2 B2 O2
  go_wp2_with fail
  refine (all_s M3.out B3.out (by omega) (by omega) HC.out HU.out 0 n 0 (by decide) (by decide)).mono ?_
  rw [HF.out]
  rintro e w4 ⟨rfl, ⟨s1, hM, hLd, hK⟩, hB⟩
  have HX4 := hid (HX3.out.but hB hgp hgb)
  have M4 := hid hM
  have K4 := hid hK
  have O4 := hid (hB.stay O3.out (by omega) (by omega))
  have hd0 := hLd.d0
  have hd1 := hLd.d1
  have hc0 := HC.out.d0
  have hc1 := HC.out.d1
  have hfp : w4.heap.size ≠ p := by have := hM.lt; omega
  have hfb : w4.heap.size ≠ b := by have := hM.lt; omega
  have hfg : w4.heap.size ≠ g := by have := HX4.out.lt; omega
  clear hM hK hB hLd HX3 M3 B3 O3
  go_wp2_with fail
  refine (count_at (M4.out.below (below_alloc _ _))).mono ?_
  rintro e w5 ⟨rfl, hB⟩
  have HX5 := hid ((HX4.out.below (below_alloc _ _)).below hB)
  have K5 := hid ((K4.out.below (below_alloc _ _)).below hB)
  have O5 := hid (P.stay hB (P.hkeep O4.out _))
  have F5 : Hid (w5.heap[w4.heap.size]? = some (.cells #[.int .i64 rf, .int .i64 rr, .int .i64 rv, .int .i64 re] 32 (0, 0))) := hid (P.stay hB (heap_alloc_new _ _))
  clear hB HX4 M4 K4 O4
  have hsub : IntKind.i64.wrap (s1.d - s.d) = s1.d - s.d := i64w (by omega) (by omega)
  have hle : s1.d - s.d ≤ 4 := by omega
  clear hd0 hd1 hc0 hc1
  generalize s1.d = c2 at *
  generalize s.d = c1 at *
  generalize w4.heap.size = f at *
  generalize s.xs = xs at *
  obtain ⟨o, ho⟩ : ∃ o, w.heap.size = o := ⟨_, rfl⟩
  have HO := hid ho
  rw [ho] at O5 hgo hpb0 hbb0 hg0
  rw [ho]
  clear ho
  go_wp2_with fail
  go_loopw [15] (fun i wr => ∃ k : Nat, k ≤ 4 ∧ i = .int .i64 k ∧ ∃ y, IsWk wr g y ∧ (Wi xs ⟨rf, rr, rv, re⟩ l y ∧ y.lv = 3 - (k : Int) ∨ Wd ⟨rf, rr, rv, re⟩ l y) ∧ Kn w wr p b xs (204 + k) ∧ wr.heap[o]? = some (.cells #[.int .i64 a, .int .u64 x] 40 (0, 0)) ∧ wr.heap[f]? = some (.cells #[.int .i64 rf, .int .i64 rr, .int .i64 rv, .int .i64 re] 32 (0, 0))) (fun i _ => 4 - (intOf i).toNat)
  case atStart => exact ⟨0, Nat.zero_le _, rfl, y0, HX5.out, .inl ⟨HI.out, hlv3⟩, K5.out, O5.out, F5.out⟩
  case round =>
    obtain ⟨k, hk, rfl, y, hX, hY, hK, hO, hF⟩ := hrel
    clear HX5 K5 O5 F5 HI hlv3
    have UX := hid hX
    have UK := hid hK
    have UO := hid hO
    have UF := hid hF
    clear hX hK hO hF
    have hwk : IntKind.i64.wrap ((k : Int) + 1) = (k : Int) + 1 := i64w (by omega) (by omega)
    by_cases hlt4 : k < 4
    · rcases hY with ⟨hI, hlv⟩ | hD
      · have HS := hid (step_f UK.out UX.out hI (by unfold bnd; omega) hgp hgb (by rw [HO.out]; exact hg0.out) HU.out)
        have hv0 := hI.ok.lv0
        clear hI
        go_wp2_with fail
        refine HS.out.mono ?_
        rintro e v1 ⟨y2, ⟨bb, rfl⟩, h1, h2, h3, h4⟩
        have H1 := hid h1
        have H2 := hid h2
        have H3 := hid h3
        have H4 := hid (h4.stay UO.out hgo (by omega) (by omega))
        have H5 := hid (h4.stay UF.out hfg hfp hfb)
        clear h1 h2 h3 h4 HS
        go_wp2_with fail
        go_roundw
        case rel =>
          refine ⟨k + 1, by omega, by go_num, y2, H1.out, ?_, H3.out, H4.out, H5.out⟩
          rcases H2.out with ⟨i1, i2⟩ | i
          · exact .inl ⟨i1, by omega⟩
          · exact .inr i
        case measure => simp [intOf]; omega
      · have UD := hid hD
        have HS := hid (step_done UX.out hD.st (.pointer (some ⟨p, 0, none⟩)))
        clear hD
        go_wp2_with fail
        refine HS.out.mono ?_
        rintro e v1 ⟨rfl, hw⟩
        rw [hw]
        clear hw v1 HS
        go_wp2_with fail
        go_roundw
        case rel =>
          obtain ⟨s3, m3, x3, c3⟩ := UK.out.mem
          exact ⟨k + 1, by omega, by go_num, y, UX.out, .inr UD.out, ⟨UK.out.bel, UK.out.p0, UK.out.b0, s3, m3, x3, c3.mono (by omega)⟩, UO.out, UF.out⟩
        case measure => simp [intOf]; omega
    · have hk4 : k = 4 := by omega
      have hD : Wd ⟨rf, rr, rv, re⟩ l y := by
        rcases hY with ⟨hI, hlv⟩ | hD
        · exact absurd hI.ok.lv0 (by omega)
        · exact hD
      have UD := hid hD
      clear hD hY hwk
      go_wp2_with fail
      refine (result_k UX.out UD.out).mono ?_
      rintro e v1 ⟨rfl, hB⟩
      have HX1 := hid (UX.out.below hB)
      have K1 := hid (UK.out.below hB)
      have O1 := hid (P.stay hB UO.out)
      have F1 := hid (P.stay hB UF.out)
      clear hB UX UK UO UF
      simp only [ftwo]
      have hhp : v1.heap.size ≠ p := by have := K1.out.lt; omega
      have hhb : v1.heap.size ≠ b := by have := K1.out.lt; omega
      go_wp2_with fail
      refine (path_d (HX1.out.below (below_alloc _ _)) UD.out).mono ?_
      rintro e v2 ⟨rfl, hP, hB⟩
      have K2 := hid ((K1.out.below (below_alloc _ _)).below hB)
      have O2 := hid (P.stay hB (P.hkeep O1.out _))
      have F2 := hid (P.stay hB (P.hkeep F1.out _))
      have G2 : v2.heap[v1.heap.size]? = some (.cells #[.int .i64 rf, .int .i64 rr, .int .i64 rv, .int .i64 re] 32 (0, 0)) := P.stay hB (heap_alloc_new _ _)
      rw [World.size_alloc] at hP
      rw [World.size_alloc]
      have P2 := hid hP
      have hpp : v1.heap.size + 1 ≠ p := by have := K1.out.lt; omega
      have hpb : v1.heap.size + 1 ≠ b := by have := K1.out.lt; omega
      have g0 := cell_of (i := 0) G2 rfl
      have g1 := cell_of (i := 1) G2 rfl
      have g2 := cell_of (i := 2) G2 rfl
      have g3 := cell_of (i := 3) G2 rfl
      have f0 := cell_of (i := 0) F2.out rfl
      have f1 := cell_of (i := 1) F2.out rfl
      have f2 := cell_of (i := 2) F2.out rfl
      have f3 := cell_of (i := 3) F2.out rfl
      have p0 : v2.cell? ⟨v1.heap.size + 1, 0, none⟩ = some (.int .i64 (l.getD 0 0)) := cell_of hP (ints_at hm1)
      rw [hm0] at p0
      clear hP hB G2 HX1 K1 O1 F1 hhp hhb
      generalize v1.heap.size + 1 = pb at *
      generalize v1.heap.size = gb at *
      obtain ⟨m, hm⟩ : ∃ m, l.length = m := ⟨_, rfl⟩
      have HM := hid hm
      rw [hm] at hm1 hm4
      rw [hm]
      clear hm
      have hm1' : ¬ (m : Int) < 1 := by omega
      have hm4' : ¬ 4 < (m : Int) := by omega
      go_wp2_with fail
      clear g0 g1 g2 g3 f0 f1 f2 f3 p0 hm0
      rw [hk4] at K2
      go_loopw [19] (fun i wr => ∃ k : Nat, k ≤ m ∧ i = .int .i64 k ∧ (∀ j, j < k → a ≠ P.at' (l.getD j 0) n (3 - (j : Int))) ∧ Kn w wr p b xs (204 + 4) ∧ wr.heap[o]? = some (.cells #[.int .i64 a, .int .u64 x] 40 (0, 0)) ∧ wr.heap[f]? = some (.cells #[.int .i64 rf, .int .i64 rr, .int .i64 rv, .int .i64 re] 32 (0, 0)) ∧ wr.heap[pb]? = some (.cells (ints l).toArray 3 (0, 0))) (fun i _ => m - (intOf i).toNat)
      case atStart => exact ⟨0, Nat.zero_le _, rfl, fun j hj => absurd hj (Nat.not_lt_zero _), K2.out, O2.out, F2.out, P2.out⟩
      case round =>
        obtain ⟨k, hk, rfl, hne, hK, hO, hF, hP⟩ := hrel
        have UN := hid hne
        have UK := hid hK
        have UO := hid hO
        have UF := hid hF
        have UP := hid hP
        clear hne hK hO hF hP K2 O2 F2 P2
        have c0 := cell_of (i := 0) UO.out rfl
        have c1 := cell_of (i := 1) UO.out rfl
        by_cases hlt : k < m
        · have pk : wr.cell? ⟨pb, k, none⟩ = some (.int .i64 (l.getD k 0)) := cell_of UP.out (ints_at (by rw [HM.out]; exact hlt))
          have hw3 : IntKind.i64.wrap (3 - (k : Int)) = 3 - (k : Int) := i64w (by omega) (by omega)
          have hwk : IntKind.i64.wrap ((k : Int) + 1) = (k : Int) + 1 := i64w (by omega) (by omega)
          have HA := hid (fun W => P.rplace_at (l.getD k 0) n (3 - (k : Int)) W)
          have hS0 : wr.drew.cell? ⟨o, 0, none⟩ = some (.int .i64 a) ∧ wr.drew.cell? ⟨pb, k, none⟩ = some (.int .i64 (l.getD k 0)) := ⟨c0, pk⟩
          have HS : Hid (∀ W, Below wr.heap.size wr W → W.cell? ⟨o, 0, none⟩ = some (.int .i64 a) ∧ W.cell? ⟨pb, k, none⟩ = some (.int .i64 (l.getD k 0))) := hid (fun W hW => ⟨(hW.cell (p := ⟨o, 0, none⟩) (lt_of_block UO.out)).trans c0, (hW.cell (p := ⟨pb, k, none⟩) (lt_of_block UP.out)).trans pk⟩)
          obtain ⟨at0, hat⟩ : ∃ at0, P.at' (l.getD k 0) n (3 - (k : Int)) = at0 := ⟨_, rfl⟩
          have HAT := hid hat
          rw [hat] at HA
          clear hat c0 c1 pk
          obtain ⟨lk, hlk⟩ : ∃ lk, l.getD k 0 = lk := ⟨_, rfl⟩
          have HLK := hid hlk
          rw [hlk] at HA hS0 HS HAT
          clear hlk
          go_wp2_with fail
          go_region_held3 (fun w' => w'.cell? ⟨o, 0, none⟩ = some (.int .i64 a) ∧ w'.cell? ⟨pb, k, none⟩ = some (.int .i64 lk)) (first | with_reducible exact hS0 | with_reducible assumption)
            (first
              | (go_at_call 18; refine (HA.out _).mono ?_; rintro e v3 ⟨rfl, hB⟩; have hB3 := hid (bel_trans (Below.refl wr.heap.size wr).drew hB); have hS3 := HS.out _ hB3.out))
          rename_i hHeld
          clear hHeld hS0 hS3 hB
          by_cases hq : a = at0
          · have hqb : (a == at0) = true := by simp [hq]
            have K3 := hid (UK.out.below hB3.out)
            clear hq
            go_wp2_with fail
            refine (known_yes _).mono ?_
            rintro e v4 ⟨rfl, hB⟩
            have K4 := hid (K3.out.below hB)
            clear hB
            go_wp2
            go_ret
            exact ⟨rfl, K4.out.bel⟩
          · have hqb : (a == at0) = false := by simp [hq]
            have HQ := hid hq
            clear hq
            go_wp2_with fail
            go_roundw
            case rel =>
              refine ⟨k + 1, by omega, by go_num, fun j hj => ?_, UK.out.below hB3.out, P.stay hB3.out UO.out, P.stay hB3.out UF.out, P.stay hB3.out UP.out⟩
              by_cases hjk : j < k
              · exact UN.out j hjk
              · have : j = k := by omega
                rw [this, HLK.out, HAT.out]
                exact HQ.out
            case measure => simp [intOf]; omega
        · have hkm : k = m := by omega
          have HSt := hid (store_k UK.out (by unfold bnd; omega) HU.out a x n x0 x1 (by
            rw [HL.out, HM.out, ← hkm]
            exact UN.out) _ HR.out OK.out)
          clear hkm
          go_wp2_with fail
          refine HSt.out.mono ?_
          rintro e v3 ⟨er, xs', rfl, hK, hU, hfa, hB⟩
          have F3 := hB.stay UF.out hfp hfb
          have F3' := P.stay (Below.refl v3.heap.size v3).drew F3
          have HH := hid ((all_k (hK.below (Below.refl _ _).drew) (by unfold bnd; omega) hU 0 n 0 (by decide) (by decide) hfa).mono (R' := fun e w' => e = .returned (fdV ⟨rf, rr, rv, re⟩) ∧ Hid (Kn w w' p b xs' (204 + 4 + 1 + 4)) ∧ Hid (w'.heap[f]? = some (.cells #[.int .i64 rf, .int .i64 rr, .int .i64 rv, .int .i64 re] 32 (0, 0))) ∧ S4 f rf rr rv re w') fun e w' ⟨h1, h2, h3⟩ =>
            ⟨h1, hid h2, hid (h3.stay F3' hfp hfb), S4.of (h3.stay F3' hfp hfb)⟩)
          have hS0 := S4.of F3'
          have HS : Hid (∀ W W', Hid (W.heap[f]? = some (.cells #[.int .i64 rf, .int .i64 rr, .int .i64 rv, .int .i64 re] 32 (0, 0))) → Below W.heap.size W W' → S4 f rf rr rv re W') := hid (fun W W' h1 h2 => S4.of (P.stay h2 h1.out))
          clear HSt hK hU hfa hB F3 F3' c0 c1
          simp only [S4] at hS0 HH HS
          go_wp2_with fail
          go_region_held3 (fun w' => w'.cell? ⟨f, 0, none⟩ = some (.int .i64 rf) ∧ w'.cell? ⟨f, 1, none⟩ = some (.int .i64 rr) ∧ w'.cell? ⟨f, 2, none⟩ = some (.int .i64 rv) ∧ w'.cell? ⟨f, 3, none⟩ = some (.int .i64 re)) (first | with_reducible exact hS0 | with_reducible assumption)
            (first
              | (go_at_call 10; refine HH.out.mono ?_; rintro e v4 ⟨rfl, hk4', hf4, hs4⟩)
              | (go_at_call 12; refine (known_yes _).mono ?_; rintro e v5 ⟨rfl, hB5⟩; have hs5 := HS.out _ _ hf4 hB5))
          go_wp2
          go_ret
          exact ⟨rfl, (hk4'.out.below hB5).bel⟩
end Go.Proofs.Ytfpekfpjoldinaa
