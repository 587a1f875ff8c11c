/- What the document's put leaves where it tells no error: the same as the program's. Conditions: the tables are trees in words and frames; few calls have been counted. -/
import Derived.Test.YtpfmmlbakbhklaaGreatDoorCI
namespace Go.Proofs.YtpfmmlbakbhklaaGreatDoor
open Go.RowKit
theorem measD {v : Nat} : (intOf (.int .i64 (v : Nat))).toNat < (intOf (.int .i64 ((v + 1 : Nat) : Int))).toNat := by
  show v < v + 1
  omega
section
variable {u : Si} {w w' : World} {t : Nat} {o root : Int} {dr : Bool} {s : Sm} {k : Nat} {ty : Int → Option Kd}
set_option maxRecDepth 100000 in
set_option maxHeartbeats 4000000 in
theorem rput_go (hI : Inv s ty (-1)) (hr : ty root = some ⟨o, 3, 0⟩) (ho : 1 ≤ o ∧ o ≤ 16) (hT : IsU u w t o root false) (h : Wr u w s k) (hk : k + 200 ≤ bnd) (pg : Int) (lo : Nat) (el : Bool) (er ef : Int)
    (h1 : P.btw pg 0 65535 = true) (h2 : P.btw ef 0 4095 = true) (h3 : P.btw er 1 7 = true) (h4 : el = true → (pg % 16 != 0) = false ∧ (ef % 16 != 0) = false)
    (hp : (fdE s root pg).p = false) (hv : lo ≤ (fd s root pg).2) (hc : (fd s root pg).2 ≤ lo + O.cK s.ds 0) :
    Calls Tryz.prog 76 #[.pointer (some ⟨t, 0, none⟩), .int .i64 pg, .int .i64 (lo : Nat), .agg #[.bool true, .int .i64 er, .bool el, .int .i64 ef]] w fun r w' =>
      r = .returned (.int .i64 0) ∧ Wr u w' (putS o pg lo ⟨true, er, el, ef⟩ 3 root s) (k + 100) ∧ Ch u w w' := by
  have HPT := hid (Pt.start (e := ⟨true, er, el, ef⟩) hI hr hv hp hc)
  obtain ⟨e0, he0⟩ : ∃ e0 : P.En, (⟨true, er, el, ef⟩ : P.En) = e0 := ⟨_, rfl⟩
  have HE0 := hid (show P.eV e0 = .agg #[.bool true, .int .i64 er, .bool el, .int .i64 ef] by rw [← he0]; rfl)
  rw [he0] at HPT ⊢
  clear he0
  have hb := below_alloc w (.cells #[.bool true, .int .i64 er, .bool el, .int .i64 ef] 102)
  have HB := hid hb
  have HE := hid (heap_alloc_new w (.cells #[.bool true, .int .i64 er, .bool el, .int .i64 ef] 102))
  have HT := hid (hT.below hb)
  have HW := hid (h.below hb)
  have HL := hid (rlast_at (hT.below hb) (h.below hb) pg (hI.way_ok hr h1))
  have HK := hid hk
  have HB1 := hid h1
  have HO := hid ho
  have hcw := endF_le s.xs pg 0 3 root
  have hcn : ¬ (((O.cK s.ds 0 : Nat) : Int) < ((fd s root pg).2 : Nat) - (lo : Int)) := by omega
  have HCN := hid (fun W (a : Wr u W s k) => O.rcount_at a.pool 0)
  obtain ⟨c1, -, -, c4⟩ := (hT.below hb).cells.2
  obtain ⟨p0, p1⟩ := P.btw_yes.1 h1
  obtain ⟨f0, f1⟩ := P.btw_yes.1 h2
  obtain ⟨r0, r1⟩ := P.btw_yes.1 h3
  have a1 : ¬ pg < 0 := by omega
  have a2 : ¬ 65535 < pg := by omega
  have a3 : ¬ ef < 0 := by omega
  have a4 : ¬ 4095 < ef := by omega
  have a5 : ¬ er < 1 := by omega
  have a6 : ¬ 7 < er := by omega
  have hvl : ¬ (((fd s root pg).2 : Nat) : Int) < (lo : Int) := by omega
  have HVF := hid (rfl : (fd s root pg).2 = (fd s root pg).2)
  have hv3 : (fd s root pg).2 ≤ 3 := hcw
  have ewr : wrap64 ((((fd s root pg).2 : Nat) : Int) - (lo : Int)) = ((fd s root pg).2 : Nat) - (lo : Int) := by unfold wrap64; omega
  generalize hcc : O.cK s.ds 0 = ck at *
  generalize hq : fdE s root pg = q at *
  obtain ⟨qp, qr, ql, qf⟩ := q
  simp only at hp
  subst hp
  obtain ⟨v, hvv⟩ : ∃ v, (fd s root pg).2 = v := ⟨_, rfl⟩
  have HV := hid hvv
  rw [hvv] at HL hv hcn hvl hv3 ewr
  have HV3 := hid hv3
  unfold P.eV at HL
  simp only at HL
  cases el
  · clear hI hr ho hT h hk h1 h2 h3 h4 hv hc hb p0 p1 f0 f1 r0 r1 hcw hcc hq hvv hv3 HVF
    go_enter Tryz.func76, Tryz.ntmps76
    go_wp2_with fail
    refine HL.out.mono ?_
    rintro r w1 ⟨rfl, hB1⟩
    have hBa := hB1.alloc hB1.size (.cells #[.bool false, .int .i64 qr, .bool ql, .int .i64 qf] 102)
    have HBa := hid (HB.out.trans (hBa.mono HB.out.size))
    have HTa := hid (HT.out.below hBa)
    have HWa := hid (HW.out.below hBa)
    have HEa := hid (P.stay hBa HE.out)
    have c1a := HTa.out.cells.2.1
    clear hB1 hBa c1 c4 HL HB HE HT HW
    go_wp2_with fail
    refine (HCN.out _ HWa.out).mono ?_
    rintro r w2 ⟨rfl, hw2⟩
    rw [hw2]
    clear hw2 w2 HCN
    have A1 := hid a1
    have A2 := hid a2
    clear a1 a2 a3 a4 a5 a6
    have hcn' : ¬ (((ck : Nat) : Int) < ((v : Nat) : Int) - (lo : Int)) := by omega
    go_wp2
    generalize w1.alloc (.cells #[.bool false, .int .i64 qr, .bool ql, .int .i64 qf] 102) = W1 at *
    generalize w1.heap.size = z at *
    clear c1a hcn hcn' hvl ewr
    go_loopw [10] (fun p wr => ∃ (v' : Nat) (s' : Sm) (k' : Nat), p = .int .i64 v' ∧ (fd s' root pg).2 = v' ∧ v' ≤ 3 ∧ Pt o root pg lo e0 s s' ∧ Wr u wr s' k' ∧ k' + 20 * v' ≤ k + 60 ∧ Ch u W1 wr) (fun p _ => (intOf p).toNat)
    case atStart => exact ⟨v, s, k, rfl, HV.out, HV3.out, HPT.out, HWa.out, by have := HV3.out; omega, .refl _ _⟩
    case round =>
      obtain ⟨v', s', k', rfl, hvv, hv3, hpt, hWr, hkr, hCr⟩ := hrel
      have HPR := hid hpt
      have HWr := hid hWr
      have HCr := hid hCr
      have HKR := hid hkr
      have HTr := hid (HTa.out.ch HWa.out hCr)
      have HWY := hid (rway_at HTr.out hWr pg (hpt.wok HB1.out))
      obtain ⟨l, hl⟩ := wfr_last s'.xs pg root
      have hn := wfr_len s'.xs pg root
      rw [show (endF s'.xs pg 0 3 root) = fd s' root pg from rfl] at hl hn
      rw [hvv, hl, List.length_append, List.length_singleton] at hn
      rw [hl, List.length_append, List.length_singleton] at HWY
      obtain ⟨m, hm⟩ : ∃ m, l.length = m := ⟨_, rfl⟩
      have HM := hid (show ((l ++ [(fd s' root pg).1]).map (Value.int .i64))[m]? = some (.int .i64 (fd s' root pg).1) by rw [← hm]; simp)
      rw [hm] at HWY hn
      have HEND := hid (fun (h : (fd s' root pg).2 = lo) => hpt.end h)
      have htop := hWr.pool.top
      by_cases hlt : lo < v'
      · obtain ⟨n1, n2, n3⟩ := hpt.step HB1.out HO.out (by rw [hvv]; exact hlt)
        obtain ⟨f, hf, hfl⟩ := newF_in n1
        have hH : hangS s' o (P.at' (fd s' root pg).1 pg ((fd s' root pg).2 : Nat)) none16 = lay ⟨laidK s'.xs f none16 16, O.kL s'.ds 3 o⟩ (P.at' (fd s' root pg).1 pg (v' : Nat)) ⟨true, 0, false, f⟩ := by
          unfold hangS
          rw [if_pos n1, newS_yes n1, hf, hvv]
        rw [hH] at n2 n3
        rw [hvv] at n3
        have hf4 : f ≤ 4095 := by omega
        have HF4 := hid hf4
        have HTK := hid (fun (W : World) (hp : O.IsP 90 91 W u.pp u.pb s'.ds) => O.rtake_at hp 3 o)
        rw [show O.kE s'.ds 3 o = newE s' o from rfl, show O.kF s'.ds 3 o = newF s' o from rfl, n1, hf] at HTK
        have HAT := hid (fun W => P.rplace_at (fd s' root pg).1 pg ((v' : Nat) : Int) W)
        generalize (fd s' root pg).1 = fr at *
        generalize P.at' fr pg ((v' : Nat) : Int) = pa at *
        generalize O.kL s'.ds 3 o = ds' at *
        have HN2 := hid n2
        have HN3 := hid n3
        obtain ⟨v2, rfl⟩ : ∃ v2, v' = v2 + 1 := ⟨v' - 1, by omega⟩
        have ev : ((v2 + 1 : Nat) : Int) = (v2 : Int) + 1 := by omega
        rw [ev] at HAT
        have hlt' : (lo : Int) < (v2 : Int) + 1 := by omega
        have ewr : wrap64 ((v2 : Int) + 1 - 1) = (v2 : Int) := by unfold wrap64; omega
        have hm3 : m ≤ 3 := by omega
        have e1 : wrap64 ((m : Int) + 1 - 1) = (m : Int) := by unfold wrap64; omega
        have HLT := hid hlt
        have HV33 := hid hv3
        clear hvv hpt hWr hkr hCr hl hn hm htop n1 n2 n3 hf hfl hH hf4 HEND hlt hv3 ev
        go_wp2_with fail
        refine HWY.out.mono ?_
        rintro r w3 ⟨vv, rfl, hrow, hB3⟩
        obtain ⟨g, cap, rfl⟩ := ownsRow_succ hrow
        have HROW := hid hrow
        have HB3 := hid hB3
        have HT3 := hid (HTr.out.below hB3)
        have HW3 := hid (HWr.out.below hB3)
        have HC := hid (HTK.out w3.drew (HW3.out.below (Below.refl _ _).drew).pool)
        have hS : ∀ w', Ch u w3.drew w' → w'.cell? ⟨t, 1, none⟩ = some (.pointer (some ⟨u.pp, 0, none⟩)) ∧ w'.cell? ⟨t, 2, none⟩ = some (.int .i64 o) := fun w' c => by
          have h1 := ((HT3.out.below (Below.refl _ _).drew).ch (HW3.out.below (Below.refl _ _).drew) c).cells
          exact ⟨h1.2.1, h1.2.2.1⟩
        have HS := hid hS
        obtain ⟨c1, c2⟩ := hS _ (.refl _ _)
        clear hS HTK HWY hrow hB3
        go_wp2
        go_region_held3 (fun w' => w'.cell? ⟨t, 1, none⟩ = some (.pointer (some ⟨u.pp, 0, none⟩)) ∧ w'.cell? ⟨t, 2, none⟩ = some (.int .i64 o)) (first | exact ⟨c1, c2⟩ | assumption)
          (first | (go_at_call 74; refine HC.out.mono ?_; rintro r w4 ⟨rfl, hP2, hB2⟩; have hS2 := HS.out _ (.of_bt hB2); have HP2 := hid hP2; have HB2 := hid hB2; clear hP2 hB2))
        all_goals
          have HCa := hid ((Ch.of_below (u := u) (Below.refl w3.heap.size w3).drew).trans (.of_bt HB2.out))
          have HW4 := hid (show Wr u w4 ⟨s'.xs, ds'⟩ k' from (HW3.out.below (Below.refl _ _).drew).turn HP2.out HB2.out)
          have HT4 := hid (HT3.out.ch HW3.out HCa.out)
          have HR4 := hid (own_chR HROW.out HW3.out HCa.out)
          have HC4 := hid ((HCr.out.trans (.of_below HB3.out)).trans HCa.out)
          clear hS2 c1 c2 HC HS HP2 HB2 HCa
          go_wp2_with fail
          refine (zero_at HT4.out HW4.out (by have := HK.out; have := HKR.out; omega) f HF4.out).mono ?_
          rintro r w5 ⟨rfl, hW5, hC5⟩
          have HW5 := hid hW5
          have HT5 := hid (HT4.out.ch HW4.out hC5)
          have hr5 := own_chR HR4.out HW4.out hC5
          have hg := hr5.cellAt m (by omega)
          rw [HM.out] at hg
          have HC5 := hid (HC4.out.trans hC5)
          clear hW5 hC5 hr5
          go_wp2_with fail
          refine (HAT.out _).mono ?_
          rintro r w6 ⟨rfl, hB6⟩
          have HT6 := hid (HT5.out.below hB6)
          have HW6 := hid (HW5.out.below hB6)
          have HC6 := hid (HC5.out.trans (.of_below hB6))
          clear hB6 hg
          go_wp2_with fail
          refine (rlay_at HT6.out HW6.out (by have := HK.out; have := HKR.out; omega) pa ⟨true, 0, false, f⟩).mono ?_
          rintro r w7 ⟨rfl, hW7, hC7⟩
          have HW7 := hid hW7
          have HC7 := hid (HC6.out.trans hC7)
          clear hW7 hC7
          go_wp2
          have ewr2 : wrap64 (v2 : Int) = (v2 : Int) := by have := HV33.out; unfold wrap64; omega
          refine ⟨⟨v2, _, k' + 17, by simp only [ewr2], by have := HN3.out; omega, by have := HV33.out; omega, HN2.out, HW7.out, by have := HKR.out; omega, HC7.out⟩, by (try rw [ewr2]); exact measD⟩
      · have hle : lo ≤ v' := by rw [← hvv]; exact hpt.le
        obtain rfl : v' = lo := by omega
        have HE1 := hid (HEND.out hvv)
        have HAT := hid (fun W => P.rplace_at (fd s' root pg).1 pg ((v' : Nat) : Int) W)
        generalize (fd s' root pg).1 = fr at *
        generalize P.at' fr pg ((v' : Nat) : Int) = pa at *
        have hm3 : m ≤ 3 := by omega
        have e1 : wrap64 ((m : Int) + 1 - 1) = (m : Int) := by unfold wrap64; omega
        have e2 : IntKind.i64.wrap ((m : Int) + 1 - 1) = (m : Int) := by rw [IntKind.wrap_i64]; omega
        have e3 : IntKind.i64.wrap (m : Int) = (m : Int) := by rw [IntKind.wrap_i64]; omega
        have e4 : (0 : Int) ≤ (m : Int) := by omega
        have e5 : (m : Int) < (m : Int) + 1 := by omega
        have e6 : m < m + 1 := by omega
        have HBX := hid (HWa.out.keepR hCr HEa.out (by decide) (by decide) (by decide))
        clear hvv hpt hWr hkr hCr hl hn hm htop HEND hlt hv3 hle
        go_wp2_with fail
        refine HWY.out.mono ?_
        rintro r w3 ⟨vv, rfl, hrow, hB3⟩
        obtain ⟨g, cap, rfl⟩ := ownsRow_succ hrow
        have HROW := hid hrow
        have HB3 := hid hB3
        have HT3 := hid (HTr.out.below hB3)
        have HW3 := hid (HWr.out.below hB3)
        have HX3 := hid (P.stay hB3 HBX.out)
        have HC3 := hid (HCr.out.trans (.of_below hB3))
        have hS : ∀ w' : World, w'.ownsRow wr.heap.size 3 1 (.slice (some ⟨g, 0, none⟩) (m + 1) cap) (m + 1) ((l ++ [fr]).map (Value.int .i64)) → (w'.heap[w.heap.size]? = some (.cells #[.bool true, .int .i64 er, .bool false, .int .i64 ef] 102 (0, 0))) → w'.cell? ⟨g, m, none⟩ = some (.int .i64 fr) ∧ w'.cell? ⟨w.heap.size, 0, none⟩ = some (.bool true) ∧ w'.cell? ⟨w.heap.size, 1, none⟩ = some (.int .i64 er) ∧ w'.cell? ⟨w.heap.size, 2, none⟩ = some (.bool false) ∧ w'.cell? ⟨w.heap.size, 3, none⟩ = some (.int .i64 ef) := fun w' a b => by
          have hg := a.cellAt m (by omega)
          rw [HM.out] at hg
          exact ⟨hg, cells4V b⟩
        have HS := hid hS
        have H80 : Hid (∀ W, Hid (Below w3.heap.size w3 W) → Calls Tryz.prog 80 #[.int .i64 fr, .int .i64 pg, .int .i64 (v' : Nat)] W fun e w' => e = .returned (.int .i64 pa) ∧ (w'.cell? ⟨g, m, none⟩ = some (.int .i64 fr) ∧ w'.cell? ⟨w.heap.size, 0, none⟩ = some (.bool true) ∧ w'.cell? ⟨w.heap.size, 1, none⟩ = some (.int .i64 er) ∧ w'.cell? ⟨w.heap.size, 2, none⟩ = some (.bool false) ∧ w'.cell? ⟨w.heap.size, 3, none⟩ = some (.int .i64 ef)) ∧ Hid (Below w3.heap.size w3 w')) := fun W b => by
          refine (HAT.out W).mono ?_
          rintro e w' ⟨rfl, hB⟩
          have := b.out.trans (hB.mono b.out.size)
          exact ⟨rfl, HS.out _ (own_bel HROW.out this) (P.stay this HX3.out), this⟩
        have H83 : Hid (∀ W, Hid (Below w3.heap.size w3 W) → Calls Tryz.prog 83 #[.pointer (some ⟨t, 0, none⟩), .int .i64 pa, .agg #[.bool true, .int .i64 er, .bool false, .int .i64 ef]] W fun e w' => e = .returned (.tuple #[]) ∧ (w'.cell? ⟨g, m, none⟩ = some (.int .i64 fr) ∧ w'.cell? ⟨w.heap.size, 0, none⟩ = some (.bool true) ∧ w'.cell? ⟨w.heap.size, 1, none⟩ = some (.int .i64 er) ∧ w'.cell? ⟨w.heap.size, 2, none⟩ = some (.bool false) ∧ w'.cell? ⟨w.heap.size, 3, none⟩ = some (.int .i64 ef)) ∧ Hid (Wr u w' (lay s' pa e0) (k' + 1) ∧ Ch u w3 w')) := fun W b => by
          rw [← HE0.out]
          refine (rlay_at (HT3.out.below b.out) (HW3.out.below b.out) (by have := HK.out; have := HKR.out; omega) pa e0).mono ?_
          rintro e w' ⟨rfl, hW, hC⟩
          exact ⟨rfl, HS.out _ (own_chR (own_bel HROW.out b.out) (HW3.out.below b.out) hC) ((HW3.out.below b.out).keepR hC (P.stay b.out HX3.out) (by decide) (by decide) (by decide)), hW, (Ch.of_below b.out).trans hC⟩
        have HD : Hid (Below w3.heap.size w3 w3.drew) := (Below.refl _ _).drew
        have hS0 := HS.out w3.drew (own_bel HROW.out HD.out) (P.stay HD.out HX3.out)
        clear hS hrow hB3 HWY HAT HBX
        go_wp2
        go_region_held3 (fun w' => w'.cell? ⟨g, m, none⟩ = some (.int .i64 fr) ∧ w'.cell? ⟨w.heap.size, 0, none⟩ = some (.bool true) ∧ w'.cell? ⟨w.heap.size, 1, none⟩ = some (.int .i64 er) ∧ w'.cell? ⟨w.heap.size, 2, none⟩ = some (.bool false) ∧ w'.cell? ⟨w.heap.size, 3, none⟩ = some (.int .i64 ef)) (first | exact hS0 | assumption)
          (first
            | (go_at_call 80; refine (H80.out _ (by assumption)).mono ?_; rintro e5 w5 ⟨rfl, hS5, HT5⟩)
            | (go_at_call 83; refine (H83.out _ (by assumption)).mono ?_; rintro e6 w6 ⟨rfl, hS6, HT6⟩))
        all_goals
          clear hS5 hS6 hS0
          go_wp2
          go_ret
          exact ⟨rfl, by rw [HE1.out]; exact HT6.out.1.mono (by have := HKR.out; omega), ((Ch.of_below HBa.out).trans HC3.out).trans HT6.out.2⟩
  · obtain ⟨a7, a8⟩ := h4 rfl
    clear hI hr ho hT h hk h1 h2 h3 h4 hv hc hb p0 p1 f0 f1 r0 r1 hcw hcc hq hvv hv3 HVF
    go_enter Tryz.func76, Tryz.ntmps76
    go_wp2_with fail
    refine HL.out.mono ?_
    rintro r w1 ⟨rfl, hB1⟩
    have hBa := hB1.alloc hB1.size (.cells #[.bool false, .int .i64 qr, .bool ql, .int .i64 qf] 102)
    have HBa := hid (HB.out.trans (hBa.mono HB.out.size))
    have HTa := hid (HT.out.below hBa)
    have HWa := hid (HW.out.below hBa)
    have HEa := hid (P.stay hBa HE.out)
    have c1a := HTa.out.cells.2.1
    clear hB1 hBa c1 c4 HL HB HE HT HW
    go_wp2_with fail
    refine (HCN.out _ HWa.out).mono ?_
    rintro r w2 ⟨rfl, hw2⟩
    rw [hw2]
    clear hw2 w2 HCN
    have A1 := hid a1
    have A2 := hid a2
    clear a1 a2 a3 a4 a5 a6
    have hcn' : ¬ (((ck : Nat) : Int) < ((v : Nat) : Int) - (lo : Int)) := by omega
    go_wp2
    generalize w1.alloc (.cells #[.bool false, .int .i64 qr, .bool ql, .int .i64 qf] 102) = W1 at *
    generalize w1.heap.size = z at *
    clear c1a hcn hcn' hvl ewr
    go_loopw [10] (fun p wr => ∃ (v' : Nat) (s' : Sm) (k' : Nat), p = .int .i64 v' ∧ (fd s' root pg).2 = v' ∧ v' ≤ 3 ∧ Pt o root pg lo e0 s s' ∧ Wr u wr s' k' ∧ k' + 20 * v' ≤ k + 60 ∧ Ch u W1 wr) (fun p _ => (intOf p).toNat)
    case atStart => exact ⟨v, s, k, rfl, HV.out, HV3.out, HPT.out, HWa.out, by have := HV3.out; omega, .refl _ _⟩
    case round =>
      obtain ⟨v', s', k', rfl, hvv, hv3, hpt, hWr, hkr, hCr⟩ := hrel
      have HPR := hid hpt
      have HWr := hid hWr
      have HCr := hid hCr
      have HKR := hid hkr
      have HTr := hid (HTa.out.ch HWa.out hCr)
      have HWY := hid (rway_at HTr.out hWr pg (hpt.wok HB1.out))
      obtain ⟨l, hl⟩ := wfr_last s'.xs pg root
      have hn := wfr_len s'.xs pg root
      rw [show (endF s'.xs pg 0 3 root) = fd s' root pg from rfl] at hl hn
      rw [hvv, hl, List.length_append, List.length_singleton] at hn
      rw [hl, List.length_append, List.length_singleton] at HWY
      obtain ⟨m, hm⟩ : ∃ m, l.length = m := ⟨_, rfl⟩
      have HM := hid (show ((l ++ [(fd s' root pg).1]).map (Value.int .i64))[m]? = some (.int .i64 (fd s' root pg).1) by rw [← hm]; simp)
      rw [hm] at HWY hn
      have HEND := hid (fun (h : (fd s' root pg).2 = lo) => hpt.end h)
      have htop := hWr.pool.top
      by_cases hlt : lo < v'
      · obtain ⟨n1, n2, n3⟩ := hpt.step HB1.out HO.out (by rw [hvv]; exact hlt)
        obtain ⟨f, hf, hfl⟩ := newF_in n1
        have hH : hangS s' o (P.at' (fd s' root pg).1 pg ((fd s' root pg).2 : Nat)) none16 = lay ⟨laidK s'.xs f none16 16, O.kL s'.ds 3 o⟩ (P.at' (fd s' root pg).1 pg (v' : Nat)) ⟨true, 0, false, f⟩ := by
          unfold hangS
          rw [if_pos n1, newS_yes n1, hf, hvv]
        rw [hH] at n2 n3
        rw [hvv] at n3
        have hf4 : f ≤ 4095 := by omega
        have HF4 := hid hf4
        have HTK := hid (fun (W : World) (hp : O.IsP 90 91 W u.pp u.pb s'.ds) => O.rtake_at hp 3 o)
        rw [show O.kE s'.ds 3 o = newE s' o from rfl, show O.kF s'.ds 3 o = newF s' o from rfl, n1, hf] at HTK
        have HAT := hid (fun W => P.rplace_at (fd s' root pg).1 pg ((v' : Nat) : Int) W)
        generalize (fd s' root pg).1 = fr at *
        generalize P.at' fr pg ((v' : Nat) : Int) = pa at *
        generalize O.kL s'.ds 3 o = ds' at *
        have HN2 := hid n2
        have HN3 := hid n3
        obtain ⟨v2, rfl⟩ : ∃ v2, v' = v2 + 1 := ⟨v' - 1, by omega⟩
        have ev : ((v2 + 1 : Nat) : Int) = (v2 : Int) + 1 := by omega
        rw [ev] at HAT
        have hlt' : (lo : Int) < (v2 : Int) + 1 := by omega
        have ewr : wrap64 ((v2 : Int) + 1 - 1) = (v2 : Int) := by unfold wrap64; omega
        have hm3 : m ≤ 3 := by omega
        have e1 : wrap64 ((m : Int) + 1 - 1) = (m : Int) := by unfold wrap64; omega
        have HLT := hid hlt
        have HV33 := hid hv3
        clear hvv hpt hWr hkr hCr hl hn hm htop n1 n2 n3 hf hfl hH hf4 HEND hlt hv3 ev
        go_wp2_with fail
        refine HWY.out.mono ?_
        rintro r w3 ⟨vv, rfl, hrow, hB3⟩
        obtain ⟨g, cap, rfl⟩ := ownsRow_succ hrow
        have HROW := hid hrow
        have HB3 := hid hB3
        have HT3 := hid (HTr.out.below hB3)
        have HW3 := hid (HWr.out.below hB3)
        have HC := hid (HTK.out w3.drew (HW3.out.below (Below.refl _ _).drew).pool)
        have hS : ∀ w', Ch u w3.drew w' → w'.cell? ⟨t, 1, none⟩ = some (.pointer (some ⟨u.pp, 0, none⟩)) ∧ w'.cell? ⟨t, 2, none⟩ = some (.int .i64 o) := fun w' c => by
          have h1 := ((HT3.out.below (Below.refl _ _).drew).ch (HW3.out.below (Below.refl _ _).drew) c).cells
          exact ⟨h1.2.1, h1.2.2.1⟩
        have HS := hid hS
        obtain ⟨c1, c2⟩ := hS _ (.refl _ _)
        clear hS HTK HWY hrow hB3
        go_wp2
        go_region_held3 (fun w' => w'.cell? ⟨t, 1, none⟩ = some (.pointer (some ⟨u.pp, 0, none⟩)) ∧ w'.cell? ⟨t, 2, none⟩ = some (.int .i64 o)) (first | exact ⟨c1, c2⟩ | assumption)
          (first | (go_at_call 74; refine HC.out.mono ?_; rintro r w4 ⟨rfl, hP2, hB2⟩; have hS2 := HS.out _ (.of_bt hB2); have HP2 := hid hP2; have HB2 := hid hB2; clear hP2 hB2))
        all_goals
          have HCa := hid ((Ch.of_below (u := u) (Below.refl w3.heap.size w3).drew).trans (.of_bt HB2.out))
          have HW4 := hid (show Wr u w4 ⟨s'.xs, ds'⟩ k' from (HW3.out.below (Below.refl _ _).drew).turn HP2.out HB2.out)
          have HT4 := hid (HT3.out.ch HW3.out HCa.out)
          have HR4 := hid (own_chR HROW.out HW3.out HCa.out)
          have HC4 := hid ((HCr.out.trans (.of_below HB3.out)).trans HCa.out)
          clear hS2 c1 c2 HC HS HP2 HB2 HCa
          go_wp2_with fail
          refine (zero_at HT4.out HW4.out (by have := HK.out; have := HKR.out; omega) f HF4.out).mono ?_
          rintro r w5 ⟨rfl, hW5, hC5⟩
          have HW5 := hid hW5
          have HT5 := hid (HT4.out.ch HW4.out hC5)
          have hr5 := own_chR HR4.out HW4.out hC5
          have hg := hr5.cellAt m (by omega)
          rw [HM.out] at hg
          have HC5 := hid (HC4.out.trans hC5)
          clear hW5 hC5 hr5
          go_wp2_with fail
          refine (HAT.out _).mono ?_
          rintro r w6 ⟨rfl, hB6⟩
          have HT6 := hid (HT5.out.below hB6)
          have HW6 := hid (HW5.out.below hB6)
          have HC6 := hid (HC5.out.trans (.of_below hB6))
          clear hB6 hg
          go_wp2_with fail
          refine (rlay_at HT6.out HW6.out (by have := HK.out; have := HKR.out; omega) pa ⟨true, 0, false, f⟩).mono ?_
          rintro r w7 ⟨rfl, hW7, hC7⟩
          have HW7 := hid hW7
          have HC7 := hid (HC6.out.trans hC7)
          clear hW7 hC7
          go_wp2
          have ewr2 : wrap64 (v2 : Int) = (v2 : Int) := by have := HV33.out; unfold wrap64; omega
          refine ⟨⟨v2, _, k' + 17, by simp only [ewr2], by have := HN3.out; omega, by have := HV33.out; omega, HN2.out, HW7.out, by have := HKR.out; omega, HC7.out⟩, by (try rw [ewr2]); exact measD⟩
      · have hle : lo ≤ v' := by rw [← hvv]; exact hpt.le
        obtain rfl : v' = lo := by omega
        have HE1 := hid (HEND.out hvv)
        have HAT := hid (fun W => P.rplace_at (fd s' root pg).1 pg ((v' : Nat) : Int) W)
        generalize (fd s' root pg).1 = fr at *
        generalize P.at' fr pg ((v' : Nat) : Int) = pa at *
        have hm3 : m ≤ 3 := by omega
        have e1 : wrap64 ((m : Int) + 1 - 1) = (m : Int) := by unfold wrap64; omega
        have e2 : IntKind.i64.wrap ((m : Int) + 1 - 1) = (m : Int) := by rw [IntKind.wrap_i64]; omega
        have e3 : IntKind.i64.wrap (m : Int) = (m : Int) := by rw [IntKind.wrap_i64]; omega
        have e4 : (0 : Int) ≤ (m : Int) := by omega
        have e5 : (m : Int) < (m : Int) + 1 := by omega
        have e6 : m < m + 1 := by omega
        have HBX := hid (HWa.out.keepR hCr HEa.out (by decide) (by decide) (by decide))
        clear hvv hpt hWr hkr hCr hl hn hm htop HEND hlt hv3 hle
        go_wp2_with fail
        refine HWY.out.mono ?_
        rintro r w3 ⟨vv, rfl, hrow, hB3⟩
        obtain ⟨g, cap, rfl⟩ := ownsRow_succ hrow
        have HROW := hid hrow
        have HB3 := hid hB3
        have HT3 := hid (HTr.out.below hB3)
        have HW3 := hid (HWr.out.below hB3)
        have HX3 := hid (P.stay hB3 HBX.out)
        have HC3 := hid (HCr.out.trans (.of_below hB3))
        have hS : ∀ w' : World, w'.ownsRow wr.heap.size 3 1 (.slice (some ⟨g, 0, none⟩) (m + 1) cap) (m + 1) ((l ++ [fr]).map (Value.int .i64)) → (w'.heap[w.heap.size]? = some (.cells #[.bool true, .int .i64 er, .bool true, .int .i64 ef] 102 (0, 0))) → w'.cell? ⟨g, m, none⟩ = some (.int .i64 fr) ∧ w'.cell? ⟨w.heap.size, 0, none⟩ = some (.bool true) ∧ w'.cell? ⟨w.heap.size, 1, none⟩ = some (.int .i64 er) ∧ w'.cell? ⟨w.heap.size, 2, none⟩ = some (.bool true) ∧ w'.cell? ⟨w.heap.size, 3, none⟩ = some (.int .i64 ef) := fun w' a b => by
          have hg := a.cellAt m (by omega)
          rw [HM.out] at hg
          exact ⟨hg, cells4V b⟩
        have HS := hid hS
        have H80 : Hid (∀ W, Hid (Below w3.heap.size w3 W) → Calls Tryz.prog 80 #[.int .i64 fr, .int .i64 pg, .int .i64 (v' : Nat)] W fun e w' => e = .returned (.int .i64 pa) ∧ (w'.cell? ⟨g, m, none⟩ = some (.int .i64 fr) ∧ w'.cell? ⟨w.heap.size, 0, none⟩ = some (.bool true) ∧ w'.cell? ⟨w.heap.size, 1, none⟩ = some (.int .i64 er) ∧ w'.cell? ⟨w.heap.size, 2, none⟩ = some (.bool true) ∧ w'.cell? ⟨w.heap.size, 3, none⟩ = some (.int .i64 ef)) ∧ Hid (Below w3.heap.size w3 w')) := fun W b => by
          refine (HAT.out W).mono ?_
          rintro e w' ⟨rfl, hB⟩
          have := b.out.trans (hB.mono b.out.size)
          exact ⟨rfl, HS.out _ (own_bel HROW.out this) (P.stay this HX3.out), this⟩
        have H83 : Hid (∀ W, Hid (Below w3.heap.size w3 W) → Calls Tryz.prog 83 #[.pointer (some ⟨t, 0, none⟩), .int .i64 pa, .agg #[.bool true, .int .i64 er, .bool true, .int .i64 ef]] W fun e w' => e = .returned (.tuple #[]) ∧ (w'.cell? ⟨g, m, none⟩ = some (.int .i64 fr) ∧ w'.cell? ⟨w.heap.size, 0, none⟩ = some (.bool true) ∧ w'.cell? ⟨w.heap.size, 1, none⟩ = some (.int .i64 er) ∧ w'.cell? ⟨w.heap.size, 2, none⟩ = some (.bool true) ∧ w'.cell? ⟨w.heap.size, 3, none⟩ = some (.int .i64 ef)) ∧ Hid (Wr u w' (lay s' pa e0) (k' + 1) ∧ Ch u w3 w')) := fun W b => by
          rw [← HE0.out]
          refine (rlay_at (HT3.out.below b.out) (HW3.out.below b.out) (by have := HK.out; have := HKR.out; omega) pa e0).mono ?_
          rintro e w' ⟨rfl, hW, hC⟩
          exact ⟨rfl, HS.out _ (own_chR (own_bel HROW.out b.out) (HW3.out.below b.out) hC) ((HW3.out.below b.out).keepR hC (P.stay b.out HX3.out) (by decide) (by decide) (by decide)), hW, (Ch.of_below b.out).trans hC⟩
        have HD : Hid (Below w3.heap.size w3 w3.drew) := (Below.refl _ _).drew
        have hS0 := HS.out w3.drew (own_bel HROW.out HD.out) (P.stay HD.out HX3.out)
        clear hS hrow hB3 HWY HAT HBX
        go_wp2
        go_region_held3 (fun w' => w'.cell? ⟨g, m, none⟩ = some (.int .i64 fr) ∧ w'.cell? ⟨w.heap.size, 0, none⟩ = some (.bool true) ∧ w'.cell? ⟨w.heap.size, 1, none⟩ = some (.int .i64 er) ∧ w'.cell? ⟨w.heap.size, 2, none⟩ = some (.bool true) ∧ w'.cell? ⟨w.heap.size, 3, none⟩ = some (.int .i64 ef)) (first | exact hS0 | assumption)
          (first
            | (go_at_call 80; refine (H80.out _ (by assumption)).mono ?_; rintro e5 w5 ⟨rfl, hS5, HT5⟩)
            | (go_at_call 83; refine (H83.out _ (by assumption)).mono ?_; rintro e6 w6 ⟨rfl, hS6, HT6⟩))
        all_goals
          clear hS5 hS6 hS0
          go_wp2
          go_ret
          exact ⟨rfl, by rw [HE1.out]; exact HT6.out.1.mono (by have := HKR.out; omega), ((Ch.of_below HBa.out).trans HC3.out).trans HT6.out.2⟩
end
end Go.Proofs.YtpfmmlbakbhklaaGreatDoor
