/- What the document's split returns and leaves. Conditions: the tables are trees in words and frames; few calls have been counted. What the document's All and Drop return and leave: all tables, rising, retired by Drop. Conditions: the words and frames lie in memory; all that is read is there. What the document's Drop returns and leaves: all tables, retired. Conditions: the words and frames lie in memory; all that is read is there. What the document's put returns and leaves: the same as the program's. Conditions: the tables are trees in words and frames; few calls have been counted. -/
import Derived.Test.YtpfmmlbakbhklaaGreatDoorCH
import Derived.Test.YtpfmmlbakbhklaaGreatDoorCG
import Derived.Test.YtpfmmlbakbhklaaGreatDoorBR
namespace Go.Proofs.YtpfmmlbakbhklaaGreatDoor
open Go.RowKit
section
variable {u : Si} {w w' : World} {t : Nat} {o root : Int} {dr : Bool} {s : Sm} {k : Nat} {ty : Int → Option Kd}
set_option maxRecDepth 100000 in
set_option maxHeartbeats 4000000 in
theorem rsplit_at (hI : Inv s ty (-1)) (hr : ty root = some ⟨o, 3, 0⟩) (ho : 1 ≤ o ∧ o ≤ 16) (hT : IsU u w t o root dr) (h : Wr u w s k) (hk : k + 100 ≤ bnd) (pg : Int) (hb : P.btw pg 0 65535 = true) (hp : (fdE s root pg).p = true) :
    Calls Tryz.prog 77 #[.pointer (some ⟨t, 0, none⟩), .int .i64 pg] w fun r w' => r = .returned (.int .i64 (alE s o root pg)) ∧ Wr u w' (alS s o root pg) (k + 20) ∧ Ch u w w' := by
  have HW := hid h
  have HT := hid hT
  have HK := hid hk
  have hok := hI.way_ok hr hb
  have HL := hid (rlast_at hT h pg hok)
  obtain ⟨hri, hri2, hfi, hfi2⟩ := fdE_in s root pg
  rcases hI.fd_lf hr hb hp with ⟨hl, he⟩ | ⟨hl, he, hm16⟩
  · have hA : alE s o root pg = 0 := by unfold alE; rw [he, if_neg (by decide)]
    have hS : alS s o root pg = s := by unfold alS; rw [he, if_neg (by decide)]
    rw [hA, hS]
    rw [hl] at HL
    generalize fdE s root pg = e at *
    obtain ⟨ep, er, el, ef⟩ := e
    unfold P.eV at HL
    simp only at HL
    clear hI hr ho hT h hk hb hp hok hl he hA hS hri hri2 hfi hfi2
    go_enter Tryz.func77, Tryz.ntmps77
    go_wp2_with fail
    refine HL.out.mono ?_
    rintro r w1 ⟨rfl, hB1⟩
    have HB1 := hid hB1
    clear hB1
    go_wp2
    go_ret
    have hB := HB1.out.alloc HB1.out.size (.cells #[.bool ep, .int .i64 er, .bool el, .int .i64 ef] 102)
    exact ⟨rfl, (HW.out.below hB).mono (by omega), .of_below hB⟩
  · have hA : alE s o root pg = newE s o := by unfold alE; rw [he, if_pos rfl]
    have hS : alS s o root pg = hangS s o (P.at' (fd s root pg).1 pg (fd s root pg).2) (part (fdE s root pg)) := by unfold alS; rw [he, if_pos rfl]
    rw [hA, hS]
    rw [hl] at HL ⊢
    have HTK := hid (fun (W : World) (hp : O.IsP 90 91 W u.pp u.pb s.ds) => O.rtake_at hp 3 o)
    rw [show O.kE s.ds 3 o = newE s o from rfl, show O.kF s.ds 3 o = newF s o from rfl] at HTK
    by_cases hee : newE s o = 0
    · obtain ⟨hn0, hn1, hn2⟩ := hI.free ho hee
      have hwn := hI.way_new hr hb hn0 hn1 hn2 (part (fdE s root pg))
      have htop := hI.top
      obtain ⟨f, hf, -⟩ := newF_in hee
      have hf4 : f ≤ 4095 := by omega
      rw [hf] at hwn HTK
      have hH : hangS s o (P.at' (fd s root pg).1 pg ((1 : Nat) : Int)) (part (fdE s root pg)) = lay ⟨laidK s.xs f (part (fdE s root pg)) 16, O.kL s.ds 3 o⟩ (P.at' (fd s root pg).1 pg 1) ⟨true, 0, false, f⟩ := by
        unfold hangS newS
        rw [if_pos hee, if_pos hee, hf]
        rfl
      rw [hH, hee]
      rw [hee] at HTK
      have hok2 : WayOk (laidK s.xs f (part (fdE s root pg)) 16) root pg := hok.len hwn (laidK_len _ _ _ _)
      have hen := end_way hwn
      obtain ⟨l, hl2⟩ := wfr_last s.xs pg root
      have hwf : wfr (laidK s.xs f (part (fdE s root pg)) 16) pg root = l ++ [(fd s root pg).1] := by
        unfold wfr
        rw [hwn]
        exact hl2
      have hln := wfr_len s.xs pg root
      rw [show (endF s.xs pg 0 3 root).2 = 1 from hl, hl2, List.length_append, List.length_singleton] at hln
      have HWY := hid (fun (W : World) (a : IsU u W t o root dr) (k' : Nat) (b : Wr u W ⟨laidK s.xs f (part (fdE s root pg)) 16, O.kL s.ds 3 o⟩ k') => rway_at a b pg hok2)
      rw [hwf] at HWY
      have HLN := hid (show l.length = 2 by omega)
      have HAT := hid (fun W => P.rplace_at (fd s root pg).1 pg 1 W)
      generalize (fd s root pg).1 = fr at *
      generalize P.at' fr pg 1 = pa at *
      generalize hE : fdE s root pg = e at *
      obtain ⟨ep, er, el, ef⟩ := e
      simp only at hri hri2 hfi hfi2 he hm16
      unfold P.eV at HL
      simp only at HL
      have HPT : Hid (∀ i : Nat, part ⟨ep, er, el, ef⟩ i = ⟨true, er, false, ef + i⟩) := fun i => rfl
      have e16 : wrap64 (16 * (f : Int)) = 16 * (f : Int) := by unfold wrap64; omega
      have hpt : ∃ pt, part ⟨ep, er, el, ef⟩ = pt := ⟨_, rfl⟩
      obtain ⟨pt, hpt⟩ := hpt
      rw [hpt] at HWY HPT ⊢
      generalize O.kL s.ds 3 o = ds' at *
      clear hI hr ho hb hp hok hl hA hS hT h hk hn0 hn1 hn2 hwn htop hH hok2 hen hl2 hwf hln hpt hE hee hf he hm16
      go_enter Tryz.func77, Tryz.ntmps77
      go_wp2_with fail
      refine HL.out.mono ?_
      rintro r w1 ⟨rfl, hB1⟩
      have hBa := hB1.alloc hB1.size (.cells #[.bool ep, .int .i64 er, .bool el, .int .i64 ef] 102)
      have HEC := hid (heap_alloc_new w1 (.cells #[.bool ep, .int .i64 er, .bool el, .int .i64 ef] 102))
      have HBa := hid hBa
      have HTa := hid (HT.out.below hBa)
      have HWa := hid (HW.out.below hBa)
      have hsz := hB1.size
      clear hB1 hBa
      go_wp2
      generalize w1.alloc (.cells #[.bool ep, .int .i64 er, .bool el, .int .i64 ef] 102) = W1 at *
      generalize w1.heap.size = z at *
      have HC := hid (HTK.out W1.drew (HWa.out.below (Below.refl _ _).drew).pool)
      have hS : ∀ w', Ch u W1.drew w' → w'.cell? ⟨t, 1, none⟩ = some (.pointer (some ⟨u.pp, 0, none⟩)) ∧ w'.cell? ⟨t, 2, none⟩ = some (.int .i64 o) := fun w' c => by
        have h1 := ((HTa.out.below (Below.refl _ _).drew).ch (HWa.out.below (Below.refl _ _).drew) c).cells
        exact ⟨h1.2.1, h1.2.2.1⟩
      have HS := hid hS
      obtain ⟨c1, c2⟩ := hS _ (.refl _ _)
      clear hS HTK HL
      go_region_held3 (fun w' => w'.cell? ⟨t, 1, none⟩ = some (.pointer (some ⟨u.pp, 0, none⟩)) ∧ w'.cell? ⟨t, 2, none⟩ = some (.int .i64 o)) (first | exact ⟨c1, c2⟩ | assumption)
        (first | (go_at_call 74; refine HC.out.mono ?_; rintro r w2 ⟨rfl, hP2, hB2⟩; have hS2 := HS.out _ (.of_bt hB2); have HP2 := hid hP2; have HB2 := hid hB2; clear hP2 hB2))
      all_goals
        have HCa := hid ((Ch.of_below (u := u) (Below.refl W1.heap.size W1).drew).trans (.of_bt HB2.out))
        have HW2 := hid (show Wr u w2 ⟨s.xs, ds'⟩ k from (HWa.out.below (Below.refl _ _).drew).turn HP2.out HB2.out)
        have HT2 := hid (HTa.out.ch HWa.out HCa.out)
        have HE2 := hid (HWa.out.keepR HCa.out HEC.out (by decide) (by decide) (by decide))
        have HC2 := hid ((Ch.of_below HBa.out).trans HCa.out)
        clear hS2 c1 c2 HC HS HP2 HB2
        go_wp2
        go_loopw [9] (fun p wr => ∃ i : Nat, p = .int .i64 i ∧ i ≤ 16 ∧ Wr u wr ⟨laidK s.xs f pt i, ds'⟩ (k + i) ∧ Ch u w2 wr) (fun p _ => 16 - (intOf p).toNat)
        case atStart => exact ⟨0, rfl, Nat.zero_le _, HW2.out, .refl _ _⟩
        case round =>
          obtain ⟨i, rfl, hi, hWr, hCr⟩ := hrel
          have HWr := hid hWr
          have HCr := hid hCr
          have HTr := hid (HT2.out.ch HW2.out hCr)
          by_cases hlt : i < 16
          · obtain ⟨d0, d1, d2, d3⟩ := cells4V (HW2.out.keepR hCr HE2.out (by decide) (by decide) (by decide))
            have hlt' : (i : Int) < 16 := by omega
            have e2 : wrap64 (16 * (f : Int) + (i : Int)) = 16 * (f : Int) + (i : Int) := by unfold wrap64; omega
            have e3 : wrap64 (ef + (i : Int)) = ef + (i : Int) := by unfold wrap64; omega
            have HLA := hid (show laidK s.xs f pt (i + 1) = setW (laidK s.xs f pt i) (16 * (f : Int) + (i : Int)) (P.pk ⟨true, er, false, ef + (i : Int)⟩) by
              show setW (laidK s.xs f pt i) (P.at' f i 0) (P.pk (pt i)) = _
              rw [at_zero hf4 hlt, HPT.out])
            clear hWr hCr
            go_wp2_with fail
            refine (rlay_at HTr.out HWr.out (by have := HK.out; omega) (16 * (f : Int) + (i : Int)) ⟨true, er, false, ef + (i : Int)⟩).mono ?_
            rintro r w3 ⟨rfl, hW3, hC3⟩
            have HW3 := hid hW3
            have HC3 := hid (HCr.out.trans hC3)
            clear hW3 hC3 d0 d1 d2 d3
            go_wp2
            refine ⟨⟨i + 1, by go_num, by omega, ?_, HC3.out⟩, by simp [intOf]; omega⟩
            rw [HLA.out]
            exact HW3.out
          · obtain rfl : i = 16 := by omega
            have HYr := hid (HWY.out _ HTr.out _ HWr.out)
            clear hWr hCr HWY
            go_wp2_with fail
            refine HYr.out.mono ?_
            rintro r w3 ⟨v, rfl, hrow, hB3⟩
            rw [List.length_append, HLN.out] at hrow
            obtain ⟨g, cap, rfl⟩ := ownsRow_succ hrow
            have hg := hrow.cellAt 2 (by decide)
            rw [show ((l ++ [fr]).map (Value.int .i64))[2]? = some (.int .i64 fr) by rw [← HLN.out]; simp] at hg
            have HB3 := hid hB3
            have HT3 := hid (HTr.out.below hB3)
            have HW3 := hid (HWr.out.below hB3)
            clear hrow hB3 HYr
            go_wp2_with fail
            refine (HAT.out _).mono ?_
            rintro r w4 ⟨rfl, hB4⟩
            have HT4 := hid (HT3.out.below hB4)
            have HW4 := hid (HW3.out.below hB4)
            have HB4 := hid (HB3.out.trans (hB4.mono HB3.out.size))
            clear hB4 hg
            go_wp2_with fail
            refine (rlay_at HT4.out HW4.out (by have := HK.out; omega) pa ⟨true, 0, false, f⟩).mono ?_
            rintro r w5 ⟨rfl, hW5, hC5⟩
            have HW5 := hid hW5
            have HC5 := hid (((HC2.out.trans HCr.out).trans (.of_below HB4.out)).trans hC5)
            clear hW5 hC5
            go_wp2
            go_ret
            exact ⟨rfl, HW5.out.mono (by omega), HC5.out⟩
    · have hH : hangS s o (P.at' (fd s root pg).1 pg ((1 : Nat) : Int)) (part (fdE s root pg)) = s := by unfold hangS; rw [if_neg hee]
      rw [hH]
      have hL : O.kL s.ds 3 o = s.ds := kL_no hee
      rw [hL] at HTK
      have hee' : (newE s o != 0) = true := by simpa using hee
      generalize newE s o = ee at *
      generalize newF s o = ff at *
      generalize fdE s root pg = e at *
      obtain ⟨ep, er, el, ef⟩ := e
      unfold P.eV at HL
      simp only at HL
      clear hI hr ho hb hp hok hl hA hS hT h hk hH he hm16 hri hri2 hfi hfi2 hL hee
      go_enter Tryz.func77, Tryz.ntmps77
      go_wp2_with fail
      refine HL.out.mono ?_
      rintro r w1 ⟨rfl, hB1⟩
      have hBa := hB1.alloc hB1.size (.cells #[.bool ep, .int .i64 er, .bool el, .int .i64 ef] 102)
      have HBa := hid hBa
      have HTa := hid (HT.out.below hBa)
      have HWa := hid (HW.out.below hBa)
      clear hB1 hBa
      go_wp2
      generalize w1.alloc (.cells #[.bool ep, .int .i64 er, .bool el, .int .i64 ef] 102) = W1 at *
      generalize w1.heap.size = z at *
      have HC := hid (HTK.out W1.drew (HWa.out.below (Below.refl _ _).drew).pool)
      have hS : ∀ w', Ch u W1.drew w' → w'.cell? ⟨t, 1, none⟩ = some (.pointer (some ⟨u.pp, 0, none⟩)) ∧ w'.cell? ⟨t, 2, none⟩ = some (.int .i64 o) := fun w' c => by
        have h1 := ((HTa.out.below (Below.refl _ _).drew).ch (HWa.out.below (Below.refl _ _).drew) c).cells
        exact ⟨h1.2.1, h1.2.2.1⟩
      have HS := hid hS
      obtain ⟨c1, c2⟩ := hS _ (.refl _ _)
      clear hS HTK HL
      go_region_held3 (fun w' => w'.cell? ⟨t, 1, none⟩ = some (.pointer (some ⟨u.pp, 0, none⟩)) ∧ w'.cell? ⟨t, 2, none⟩ = some (.int .i64 o)) (first | exact ⟨c1, c2⟩ | assumption)
        (first | (go_at_call 74; refine HC.out.mono ?_; rintro r w2 ⟨rfl, hP2, hB2⟩; have hS2 := HS.out _ (.of_bt hB2); have HP2 := hid hP2; have HB2 := hid hB2; clear hP2 hB2))
      all_goals
        have HCa := hid ((Ch.of_below (u := u) (Below.refl W1.heap.size W1).drew).trans (.of_bt HB2.out))
        have HW2 := hid (show Wr u w2 s k from (HWa.out.below (Below.refl _ _).drew).turn HP2.out HB2.out)
        have HC2 := hid ((Ch.of_below HBa.out).trans HCa.out)
        clear hS2 c1 c2 HC HS HP2 HB2
        go_wp2
        go_ret
        exact ⟨rfl, HW2.out.mono (by omega), HC2.out⟩
end
end Go.Proofs.YtpfmmlbakbhklaaGreatDoor
namespace Go.Proofs.YtpfmmlbakbhklaaGreatDoor
open Go.RowKit
theorem cnt_len (l : List Int) : ∀ k : Nat, (cnt l k).length ≤ k * l.length
  | 0 => by simp [cnt]
  | k + 1 => by
    have ih := cnt_len l k
    have h1 := List.length_filter_le (fun y => y == (k : Int)) l
    have h2 : (k + 1) * l.length = k * l.length + l.length := Nat.succ_mul ..
    rw [cnt_succ, List.length_append]
    omega
/-- The frame F among the first i. -/
def fil (l : List Int) (F i : Nat) : List Int := (l.take i).filter fun y => y == (F : Int)
theorem fil_succ {l : List Int} {F i : Nat} {x : Int} (h : l[i]? = some x) : fil l F (i + 1) = fil l F i ++ if x = (F : Int) then [x] else [] := by
  unfold fil
  rw [List.take_add_one, h, List.filter_append]
  by_cases hx : x = (F : Int)
  · simp [hx]
  · simp [hx]
theorem fil_len (l : List Int) (F i : Nat) : (fil l F i).length ≤ l.length := by
  have h1 := List.length_filter_le (fun y => y == (F : Int)) (l.take i)
  have h2 := List.length_take_le' i l
  unfold fil
  omega
theorem fil_all (l : List Int) (F : Nat) : cnt l F ++ fil l F l.length = cnt l (F + 1) := by
  rw [cnt_succ]
  unfold fil
  rw [List.take_length]
theorem meas {m i : Nat} (h : i < m) : m - (intOf (.int .i64 ((i + 1 : Nat) : Int))).toNat < m - (intOf (.int .i64 (i : Nat))).toNat := by
  show m - (i + 1) < m - i
  omega
section
variable {u : Si} {w w' : World} {t : Nat} {o root : Int} {dr : Bool} {s : Sm} {k : Nat}
set_option maxHeartbeats 400000 in
theorem rall_dr (hT : IsU u w t o root true) :
    Calls Tryz.prog 17 #[.pointer (some ⟨t, 0, none⟩)] w fun r w' => r = .returned (.slice none 0 0) ∧ w' = w := by
  obtain ⟨-, -, -, -, c4⟩ := hT.cells
  clear hT
  go_enter Tryz.func17, Tryz.ntmps17
  go_wp2
  go_ret
  exact ⟨rfl, rfl⟩
set_option maxRecDepth 100000 in
set_option maxHeartbeats 4000000 in
theorem rall_at (hT : IsU u w t o root false) (h : Wr u w s k) (hok : UOk s.xs 3 root) :
    Calls Tryz.prog 17 #[.pointer (some ⟨t, 0, none⟩)] w fun r w' => ∃ v, r = .returned v ∧ w'.ownsRow w.heap.size 3 1 v (cnt (und s.xs 3 root) s.ds.length).length ((cnt (und s.xs 3 root) s.ds.length).map (Value.int .i64)) ∧ Below w.heap.size w w' := by
  obtain ⟨i0, hi3, hz0, hz1, hz2⟩ := info_parts info3'
  have HINF := hid (And.intro hi3 (And.intro hz0 (And.intro hz1 hz2)))
  have HT := hid hT
  have HW := hid h
  have HUN := hid (runder_at 3 w root hT h hok (by decide))
  have hul := und_len 3 root hok
  have hpos : 0 < (und s.xs 3 root).length := by unfold und; simp
  have h3 := h.pool.top
  generalize und s.xs 3 root = U at *
  obtain ⟨m, hm⟩ : ∃ m, U.length = m + 1 := ⟨U.length - 1, by omega⟩
  have HM := hid hm
  have HM5 : Hid (m < 5000) := by have : ulim 3 ≤ 5000 := ulim_le (by decide); unfold Hid; omega
  obtain ⟨N, hN⟩ : ∃ N, s.ds.length = N := ⟨_, rfl⟩
  have HN := hid hN
  rw [hN] at h3
  obtain ⟨c3, c4⟩ := hT.cells.2.2.2
  obtain ⟨B, hB1, hB2⟩ : ∃ B : Nat, N * (m + 1) + 5000 ≤ B ∧ Hid ((B + 1 ≤ maxLen) ∧ (B + 1) * 8 ≤ 140737488355328) := by
    refine ⟨4096 * 5000 + 5000, ?_, ?_⟩
    · have := Nat.mul_le_mul h3 (show m + 1 ≤ 5000 by have := HM5.out; omega)
      omega
    · unfold Hid maxLen
      decide
  have HB1 := hid hB1
  clear hT h hok hul hpos hm hN hi3 hz0 hz1 hz2 hB1
  go_enter Tryz.func17, Tryz.ntmps17
  go_wp2_with fail
  refine HUN.out.mono ?_
  rintro r w2 ⟨v, rfl, hrow, hB2⟩
  rw [HM.out] at hrow
  obtain ⟨g, cap, rfl⟩ := ownsRow_succ hrow
  have HRU := hid hrow
  have HB2 := hid hB2
  clear hrow hB2 HUN c3 c4
  go_wp2
  go_loopw [3, 5] (fun v p wr => ∃ F : Nat, p = .int .i64 F ∧ F ≤ N ∧ wr.ownsRow w2.heap.size 3 1 v (cnt U F).length ((cnt U F).map (Value.int .i64)) ∧ Below w2.heap.size w2 wr) (fun _ p _ => N - (intOf p).toNat)
  case atStart => exact ⟨0, rfl, Nat.zero_le _, World.ownsRow_nil _ _ _ _, Below.refl _ _⟩
  case round =>
    obtain ⟨F, rfl, hF, hrow, hBr⟩ := hrel
    have HROW := hid hrow
    have HBR := hid hBr
    have hBw := HB2.out.trans (hBr.mono HB2.out.size)
    have c1 := (HT.out.below hBw).cells.2.1
    obtain ⟨cp, hcp⟩ := (HW.out.below hBw).pool.head
    have cl := P.cell_of (i := 0) hcp rfl
    rw [HN.out] at cl
    have hcl := cnt_len U F
    by_cases hlt : F < N
    · have hlt' : (F : Int) < (N : Int) := by omega
      have HCL : Hid ((cnt U F).length + 5000 ≤ B) := by
        have h1 := HB1.out
        have h2 := Nat.le_trans hcl (Nat.mul_le_mul hF (Nat.le_of_eq HM.out))
        exact Nat.le_trans (Nat.add_le_add_right h2 _) h1
      have HCA := hid (fil_all U F)
      generalize cnt U F = C at *
      clear hrow hBr hcp hBw hcl
      go_wp2
      go_loopw [3, 6] (fun v p wx => ∃ i : Nat, p = .int .i64 i ∧ i ≤ m + 1 ∧ wx.ownsRow w2.heap.size 3 1 v (C ++ fil U F i).length ((C ++ fil U F i).map (Value.int .i64)) ∧ Below w2.heap.size w2 wx) (fun _ p _ => m + 1 - (intOf p).toNat)
      case atStart =>
        refine ⟨0, rfl, Nat.zero_le _, ?_, HBR.out⟩
        have : C ++ fil U F 0 = C := by unfold fil; simp
        rw [this]
        exact HROW.out
      case round =>
        obtain ⟨i, rfl, hi, hrx, hBx⟩ := hrel
        have HRX := hid hrx
        have HBX := hid hBx
        clear hrx
        by_cases hlx : i < m + 1
        · have hil : i < U.length := by have := HM.out; omega
          have hg := (own_bel HRU.out hBx).cellAt i (by omega)
          obtain ⟨x, hx⟩ : ∃ x, U[i]? = some x := ⟨_, List.getElem?_eq_getElem hil⟩
          rw [List.getElem?_map, hx, Option.map_some] at hg
          have HFS := hid (fil_succ (F := F) hx)
          have hfl := fil_len U F i
          have hlx' : (i : Int) < (m : Int) + 1 := by omega
          have hwr : wrap64 ((i : Int) + 1) = ((i + 1 : Nat) : Int) := by have := HM5.out; unfold wrap64; omega
          generalize fil U F i = FI at *
          clear hBx hx hil
          by_cases hxF : x = (F : Int)
          · subst hxF
            obtain ⟨hi3, hz0, hz1, hz2⟩ := HINF.out
            have HCO := hid (cell_one wr (.int .i64 (F : Int)) 3)
            have hsz := HBX.out.size
            have HLC : Hid ((C ++ FI).length ≤ B) := by
              have := HM.out; have := HM5.out; have := HCL.out
              unfold Hid
              rw [List.length_append]; omega
            generalize hCF : C ++ FI = CF at *
            go_wp2_with (first | (at_builtin; refine wpList_append_own _ rfl _ _ 44 rfl w2.heap.size 3 i0 (.int .i64 0) 1 8 Tryz.underlying44 hi3 hz0 hz1 hz2 rfl (by decide) _ _ _ rfl (HRX.out.alloc _) ⟨wr.heap.size, 0, none⟩ 1 1 [.int .i64 (F : Int)] rfl rfl HCO.out (by intro u hu; simp at hu; subst hu; rfl) (Nat.le_trans (Nat.add_le_add_right HLC.out 1) hB2.out.1) (Nat.le_trans (Nat.mul_le_mul_right 8 (Nat.add_le_add_right HLC.out 1)) hB2.out.2) (by simp; omega) ?_; intro v' w4 hown' hg4 hnil4; go_frame) | go_in)
            have hg4' : (wr.alloc (.cells #[.int .i64 (F : Int)] 3)).grownBy w4 u3.ownBlock := hg4
            clear hg4 hnil4 hg
            refine ⟨⟨i + 1, by go_num, by omega, ?_, (HBX.out.alloc HBX.out.size _).grown hg4' (by simp; omega) (fun j hj => (HRX.out.lt _ hj).1)⟩, by first | exact meas hlx | (rw [hwr]; exact meas hlx)⟩
            rw [HFS.out, if_pos rfl, ← List.append_assoc, hCF, List.length_append, List.map_append]
            exact hown'
          · have hb : (x == (F : Int)) = false := by simpa using hxF
            go_wp2
            refine ⟨⟨i + 1, by go_num, by omega, ?_, HBX.out⟩, by first | exact meas hlx | (rw [hwr]; exact meas hlx)⟩
            rw [HFS.out, if_neg hxF, List.append_nil]
            exact HRX.out
        · obtain rfl : i = m + 1 := by omega
          have hltn : ¬ (((m + 1 : Nat) : Int) < (m : Int) + 1) := by omega
          have hwf : wrap64 ((F : Int) + 1) = ((F + 1 : Nat) : Int) := by unfold wrap64; omega
          have hfa : C ++ fil U F (m + 1) = cnt U (F + 1) := by rw [← HM.out]; exact HCA.out
          have HFA := hid hfa
          clear hfa hBx
          go_wp2
          refine ⟨⟨F + 1, by go_num, by omega, ?_, HBX.out⟩, by first | exact meas hlt | (rw [hwf]; exact meas hlt)⟩
          rw [← HFA.out]
          exact HRX.out
    · obtain rfl : F = N := by omega
      clear hrow hBr hcp hBw hcl
      go_wp2
      go_ret
      refine ⟨_, rfl, ?_, HB2.out.trans (HBR.out.mono HB2.out.size)⟩
      rw [HN.out]
      exact O.ownsRow_base HROW.out HB2.out.size
end
end Go.Proofs.YtpfmmlbakbhklaaGreatDoor
namespace Go.Proofs.YtpfmmlbakbhklaaGreatDoor
open Go.RowKit
section
variable {u : Si} {w w' : World} {t : Nat} {o root : Int} {dr : Bool} {s : Sm} {k : Nat}
/-- The document's side stays where its tables are turned. -/
theorem Wg.putR (h : Wr u w s k) {dr : Bool} (hT : IsU u w t o root dr) {w' : World} (p : Px t w w') : Wr u w' s k := by
  obtain ⟨a, b, e⟩ := h.apartR hT (by decide) (by decide) (by decide)
  obtain ⟨hc, hh⟩ := h.pool.head
  have hp : t ≠ u.pp := fun e => by
    rw [← e, show w.heap[t]? = _ from hT] at hh
    injection hh with hh
    injection hh with _ hh _
    cases hh
  have h0 : t ≠ 0 := fun e => by
    have h1 := h.tab.hi 0 (by decide)
    subst e
    rw [show w.cell? ⟨0, 0 * 4 + 1, none⟩ = w.cell? ⟨0, 1, none⟩ from rfl, hT.cells.2.1] at h1
    cases h1
  exact h.px p h0 (fun e => a e.symm) (fun e => b e.symm) (fun e => hp e.symm) (fun x => e x.symm)
theorem own_px {n m : Nat} {v : Value} {xs : List Value} (h : w.ownsRow n 3 1 v m xs) {c : Array Value} {T : TypeId} (ht : w.heap[t]? = some (.cells c T (0, 0))) (hT : T ≠ 3) (p : Px t w w') : w'.ownsRow n 3 1 v m xs := by
  refine ⟨h.1, ?_⟩
  rcases h.2 with h | ⟨g, cap, cur, hv, a, hb, c⟩
  · exact .inl h
  · refine .inr ⟨g, cap, cur, hv, a, ?_, c⟩
    rw [p.block _ ?_]
    · exact hb
    · rintro rfl
      rw [ht] at hb
      injection hb with hb
      injection hb with _ hb _
      exact hT hb
theorem own_chR {n m : Nat} {v : Value} {xs : List Value} (h : w.ownsRow n 3 1 v m xs) (hW : Wr u w s k) (c : Ch u w w') : w'.ownsRow n 3 1 v m xs := by
  refine ⟨h.1, ?_⟩
  rcases h.2 with h | ⟨g, cap, cur, hv, a, hb, d⟩
  · exact .inl h
  · exact .inr ⟨g, cap, cur, hv, a, hW.keepR c hb (by decide) (by decide) (by decide), d⟩
set_option maxHeartbeats 400000 in
theorem rdrop_dr (h : Wr u w s k) (hT : IsU u w t o root true) :
    Calls Tryz.prog 45 #[.pointer (some ⟨t, 0, none⟩)] w fun r w' => r = .returned (.slice none 0 0) ∧ Wr u w' s k ∧ ChT u t w w' ∧ IsU u w' t o root true := by
  have HA := hid (rall_dr hT)
  have HT := hid hT
  have HW := hid h
  have f4 : w.frozen? ⟨t, 4, none⟩ = false := P.free_of hT
  have c4 := hT.cells.2.2.2.2
  clear hT h
  go_enter Tryz.func45, Tryz.ntmps45
  go_wp2_with fail
  refine HA.out.mono ?_
  rintro r w' ⟨rfl, hw'⟩
  rw [hw']
  clear hw' w'
  go_wp2
  go_loopw [4] (fun p wr => p = .int .i64 0 ∧ wr = w) (fun _ _ => 0)
  case atStart => exact ⟨rfl, rfl⟩
  case round =>
    obtain ⟨rfl, rfl⟩ := hrel
    go_wp2
    go_ret
    have hx := (Px.refl t wr).set 4 (.bool true)
    exact ⟨rfl, HW.out.putR HT.out hx, ⟨hx.os, hx.tape, hx.output, Nat.le_of_eq hx.size.symm, fun j _ _ _ _ a => hx.block j a⟩, P.heap_setCell_self HT.out _⟩
set_option maxRecDepth 100000 in
set_option maxHeartbeats 2000000 in
theorem rdrop_at (hT : IsU u w t o root false) (h : Wr u w s k) (hok : UOk s.xs 3 root) {AL : List Int} (hA : cnt (und s.xs 3 root) s.ds.length = AL) (hl5 : AL.length ≤ 5000) :
    Calls Tryz.prog 45 #[.pointer (some ⟨t, 0, none⟩)] w fun r w' => (∃ v, r = .returned v ∧ w'.ownsRow w.heap.size 3 1 v AL.length (AL.map (Value.int .i64))) ∧ Wr u w' ⟨s.xs, turnAll s.ds AL⟩ k ∧ ChT u t w w' ∧ IsU u w' t o root true := by
  have HAL := hid (rall_at hT h hok)
  rw [hA] at HAL
  have HW := hid h
  have HT := hid hT
  obtain ⟨n, hn⟩ : ∃ n, AL.length = n := ⟨_, rfl⟩
  rw [hn] at HAL hl5
  have HN := hid hn
  clear hT h hok hA hn
  go_enter Tryz.func45, Tryz.ntmps45
  go_wp2_with fail
  refine HAL.out.mono ?_
  rintro e w2 ⟨v, rfl, hrow, hB2⟩
  have HROW := hid hrow
  have HB2 := hid hB2
  have HW2 := hid (HW.out.below hB2)
  have HT2 := hid (HT.out.below hB2)
  obtain ⟨a, cap, rfl⟩ : ∃ a cap, v = .slice a n cap := by
    rcases hrow.2 with ⟨h1, h2⟩ | ⟨g, cap, cur, hv, -⟩
    · obtain rfl : n = 0 := h2
      exact ⟨none, 0, h1⟩
    · exact ⟨_, _, hv⟩
  clear hB2 hrow
  go_wp2
  go_loopw [4] (fun p wr => ∃ i : Nat, p = .int .i64 i ∧ i ≤ n ∧ Wr u wr ⟨s.xs, turnAll s.ds (AL.take i)⟩ k ∧ Ch u w2 wr) (fun p _ => n - (intOf p).toNat)
  case atStart => exact ⟨0, rfl, Nat.zero_le _, HW2.out, .refl _ _⟩
  case round =>
    obtain ⟨i, rfl, hi, hWr, hCr⟩ := hrel
    have HWr := hid hWr
    have HCr := hid hCr
    have HTr := hid (HT2.out.ch HW2.out hCr)
    have hrr := own_chR HROW.out HW2.out hCr
    have HRR := hid hrr
    by_cases hlt : i < n
    · obtain ⟨j, rfl⟩ : ∃ j, n = j + 1 := ⟨n - 1, by omega⟩
      obtain ⟨g, cap', hv⟩ := ownsRow_succ hrr
      injection hv with hv1 hv2 hv3
      subst hv1 hv3
      have hia : i < AL.length := by have := HN.out; omega
      have c0 := hrr.cellAt i (by omega)
      rw [List.getElem?_map, List.getElem?_eq_getElem hia, Option.map_some] at c0
      have HTK := hid (show AL.take (i + 1) = AL.take i ++ [AL[i]] by rw [List.take_add_one, List.getElem?_eq_getElem hia]; rfl)
      have HCI := hid (fun (W : World) (hw : W.ownsRow w.heap.size 3 1 (.slice (some ⟨g, 0, none⟩) (j + 1) cap) (j + 1) (AL.map (Value.int .i64))) => (hw.cellAt i (by omega)).trans (show (AL.map (Value.int .i64))[i]? = some (.int .i64 AL[i]) by rw [List.getElem?_map, List.getElem?_eq_getElem hia, Option.map_some]))
      generalize AL[i] = f at *
      have hlt' : (i : Int) < (j : Int) + 1 := by omega
      have hwr : wrap64 ((i : Int) + 1) = ((i + 1 : Nat) : Int) := by unfold wrap64; omega
      have HC := hid (O.rturn_at (HWr.out.below (Below.refl _ _).drew).pool f 5 0)
      have hS : ∀ w', Ch u wr.drew w' → w'.cell? ⟨t, 1, none⟩ = some (.pointer (some ⟨u.pp, 0, none⟩)) ∧ w'.cell? ⟨g, i, none⟩ = some (.int .i64 f) := fun w' c =>
        ⟨((HTr.out.below (Below.refl _ _).drew).ch (HWr.out.below (Below.refl _ _).drew) c).cells.2.1, HCI.out _ (own_chR (own_bel HRR.out (Below.refl _ _).drew) (HWr.out.below (Below.refl _ _).drew) c)⟩
      have HS := hid hS
      obtain ⟨c1, c2⟩ := hS _ (.refl _ _)
      clear hS hWr hCr hrr hia c0
      go_wp2
      go_region_held3 (fun w' => w'.cell? ⟨t, 1, none⟩ = some (.pointer (some ⟨u.pp, 0, none⟩)) ∧ w'.cell? ⟨g, i, none⟩ = some (.int .i64 f)) (first | exact ⟨c1, c2⟩ | assumption)
        (first | (go_at_call 82; refine HC.out.mono ?_; rintro r w3 ⟨rfl, hP2, hB2⟩; have hS2 := HS.out _ (.of_bt hB2); have HP2 := hid hP2; have HB2 := hid hB2; clear hP2 hB2))
      all_goals
        have HCa := hid ((Ch.of_below (u := u) (Below.refl wr.heap.size wr).drew).trans (.of_bt HB2.out))
        have HW3 := hid (show Wr u w3 ⟨s.xs, O.tL (turnAll s.ds (AL.take i)) f 5 0⟩ k from (HWr.out.below (Below.refl _ _).drew).turn HP2.out HB2.out)
        clear hS2 c1 c2 HC HS HP2 HB2
        go_wp2
        refine ⟨⟨i + 1, by go_num, by omega, ?_, HCr.out.trans HCa.out⟩, by first | exact meas hlt | (rw [hwr]; exact meas hlt)⟩
        rw [HTK.out, turnAll_app]
        exact HW3.out
    · obtain rfl : i = n := by omega
      have f4 : wr.frozen? ⟨t, 4, none⟩ = false := P.free_of HTr.out
      have c4 := HTr.out.cells.2.2.2.2
      have hall : AL.take i = AL := by rw [← HN.out, List.take_length]
      rw [hall] at hWr
      have HWf := hid hWr
      clear hWr hCr hrr hall HWr
      go_wp2
      go_ret
      have hx := (Px.refl t wr).set 4 (.bool true)
      rw [HN.out]
      have c1 := HCr.out
      refine ⟨⟨_, rfl, own_px HRR.out HTr.out (by decide) hx⟩, HWf.out.putR HTr.out hx, ?_, P.heap_setCell_self HTr.out _⟩
      refine ⟨hx.os.trans (c1.os.trans HB2.out.os), hx.tape.trans (c1.tape.trans HB2.out.tape), hx.output.trans (c1.output.trans HB2.out.output), by have := hx.size; have := c1.size; have := HB2.out.size; omega, fun j hj a b c d => ?_⟩
      have := HB2.out.size
      exact (hx.block j d).trans ((c1.block j (by omega) a b c).trans (HB2.out.block j hj))
end
end Go.Proofs.YtpfmmlbakbhklaaGreatDoor
namespace Go.Proofs.YtpfmmlbakbhklaaGreatDoor
open Go.RowKit
/-- Why the document's put tells an error: the same that the program finds. -/
theorem putE_end {s : Sm} {root pg : Int} {lo : Nat} (hl : lo ≤ 3) : ((fdE s root pg).p = true ∨ (fd s root pg).2 < lo) ↔ (en s.xs pg (endF s.xs pg lo 3 root).1 (endF s.xs pg lo 3 root).2).p = true := by
  rcases end_lo s.xs pg lo 3 root hl with ⟨a, b⟩ | ⟨a, b, c⟩
  · rw [b]
    constructor
    · rintro (h | h)
      · exact h
      · have : lo ≤ (fd s root pg).2 := a
        omega
    · exact fun h => .inl h
  · rw [b]
    exact ⟨fun _ => tb_p c, fun _ => .inr a⟩
theorem putE_lev {s : Sm} {root pg : Int} {lo : Nat} (hl : lo ≤ 3) (h : lo ≤ (fd s root pg).2) : endF s.xs pg lo 3 root = fd s root pg := by
  rcases end_lo s.xs pg lo 3 root hl with ⟨a, b⟩ | ⟨a, b, c⟩
  · exact b
  · have : (fd s root pg).2 < lo := a
    omega
section
variable {u : Si} {w w' : World} {t : Nat} {o root : Int} {dr : Bool} {s : Sm} {k : Nat} {ty : Int → Option Kd}
set_option maxHeartbeats 400000 in
theorem rput_dr (hT : IsU u w t o root true) (pg lo : Int) (ep el : Bool) (er ef : Int) :
    Calls Tryz.prog 76 #[.pointer (some ⟨t, 0, none⟩), .int .i64 pg, .int .i64 lo, .agg #[.bool ep, .int .i64 er, .bool el, .int .i64 ef]] w fun r w' => r = .returned (.int .i64 6) ∧ Below w.heap.size w w' := by
  have hb := below_alloc w (.cells #[.bool ep, .int .i64 er, .bool el, .int .i64 ef] 102)
  obtain ⟨-, -, -, -, c4⟩ := (hT.below hb).cells
  have HB := hid hb
  clear hT hb
  go_enter Tryz.func76, Tryz.ntmps76
  go_wp2
  go_ret
  exact ⟨rfl, HB.out⟩
set_option maxRecDepth 100000 in
set_option maxHeartbeats 1000000 in
/-- The page or the frame is out of range. -/
theorem rput_range (hT : IsU u w t o root false) (pg lo : Int) (ep el : Bool) (er ef : Int) (h : ¬ (P.btw pg 0 65535 = true ∧ P.btw ef 0 4095 = true)) :
    Calls Tryz.prog 76 #[.pointer (some ⟨t, 0, none⟩), .int .i64 pg, .int .i64 lo, .agg #[.bool ep, .int .i64 er, .bool el, .int .i64 ef]] w fun r w' => r = .returned (.int .i64 2) ∧ Below w.heap.size w w' := by
  have hb := below_alloc w (.cells #[.bool ep, .int .i64 er, .bool el, .int .i64 ef] 102)
  obtain ⟨-, -, -, -, c4⟩ := (hT.below hb).cells
  have HB := hid hb
  have hc : pg < 0 ∨ (¬ pg < 0 ∧ 65535 < pg) ∨ (¬ pg < 0 ∧ ¬ 65535 < pg ∧ ef < 0) ∨ (¬ pg < 0 ∧ ¬ 65535 < pg ∧ ¬ ef < 0 ∧ 4095 < ef) := by
    by_cases a : pg < 0
    · exact .inl a
    · by_cases b : 65535 < pg
      · exact .inr (.inl ⟨a, b⟩)
      · by_cases c : ef < 0
        · exact .inr (.inr (.inl ⟨a, b, c⟩))
        · by_cases d : 4095 < ef
          · exact .inr (.inr (.inr ⟨a, b, c, d⟩))
          · exact absurd ⟨P.btw_yes.2 ⟨by omega, by omega⟩, P.btw_yes.2 ⟨by omega, by omega⟩⟩ h
  clear hT hb h
  rcases hc with a | ⟨a, b⟩ | ⟨a, b, c⟩ | ⟨a, b, c, d⟩
  all_goals
    go_enter Tryz.func76, Tryz.ntmps76
    go_wp2
    go_ret
    exact ⟨rfl, HB.out⟩
set_option maxRecDepth 100000 in
set_option maxHeartbeats 1000000 in
/-- No such rights. -/
theorem rput_right (hT : IsU u w t o root false) (pg lo : Int) (ep el : Bool) (er ef : Int) (h1 : P.btw pg 0 65535 = true) (h2 : P.btw ef 0 4095 = true) (h : ¬ P.btw er 1 7 = true) :
    Calls Tryz.prog 76 #[.pointer (some ⟨t, 0, none⟩), .int .i64 pg, .int .i64 lo, .agg #[.bool ep, .int .i64 er, .bool el, .int .i64 ef]] w fun r w' => r = .returned (.int .i64 7) ∧ Below w.heap.size w w' := by
  have hb := below_alloc w (.cells #[.bool ep, .int .i64 er, .bool el, .int .i64 ef] 102)
  obtain ⟨-, -, -, -, c4⟩ := (hT.below hb).cells
  have HB := hid hb
  obtain ⟨p0, p1⟩ := P.btw_yes.1 h1
  obtain ⟨f0, f1⟩ := P.btw_yes.1 h2
  have a1 : ¬ pg < 0 := by omega
  have a2 : ¬ 65535 < pg := by omega
  have a3 : ¬ ef < 0 := by omega
  have a4 : ¬ 4095 < ef := by omega
  have hc : er < 1 ∨ (¬ er < 1 ∧ 7 < er) := by
    by_cases a : er < 1
    · exact .inl a
    · by_cases b : 7 < er
      · exact .inr ⟨a, b⟩
      · exact absurd (P.btw_yes.2 ⟨by omega, by omega⟩) h
  clear hT hb h p0 p1 f0 f1 h1 h2
  rcases hc with a | ⟨a, b⟩
  all_goals
    go_enter Tryz.func76, Tryz.ntmps76
    go_wp2
    go_ret
    exact ⟨rfl, HB.out⟩
set_option maxRecDepth 100000 in
set_option maxHeartbeats 1000000 in
/-- Large, and not at a sixteenth place. -/
theorem rput_align (hT : IsU u w t o root false) (pg lo : Int) (ep : Bool) (er ef : Int) (h1 : P.btw pg 0 65535 = true) (h2 : P.btw ef 0 4095 = true) (h3 : P.btw er 1 7 = true) (h : (pg % 16 != 0 || ef % 16 != 0) = true) :
    Calls Tryz.prog 76 #[.pointer (some ⟨t, 0, none⟩), .int .i64 pg, .int .i64 lo, .agg #[.bool ep, .int .i64 er, .bool true, .int .i64 ef]] w fun r w' => r = .returned (.int .i64 8) ∧ Below w.heap.size w w' := by
  have hb := below_alloc w (.cells #[.bool ep, .int .i64 er, .bool true, .int .i64 ef] 102)
  obtain ⟨-, -, -, -, c4⟩ := (hT.below hb).cells
  have HB := hid hb
  obtain ⟨p0, p1⟩ := P.btw_yes.1 h1
  obtain ⟨f0, f1⟩ := P.btw_yes.1 h2
  obtain ⟨r0, r1⟩ := P.btw_yes.1 h3
  have a1 : ¬ pg < 0 := by omega
  have a2 : ¬ 65535 < pg := by omega
  have a3 : ¬ ef < 0 := by omega
  have a4 : ¬ 4095 < ef := by omega
  have a5 : ¬ er < 1 := by omega
  have a6 : ¬ 7 < er := by omega
  have hc : (pg % 16 != 0) = true ∨ ((pg % 16 != 0) = false ∧ (ef % 16 != 0) = true) := by
    cases ha : (pg % 16 != 0)
    · rw [ha] at h
      exact .inr ⟨rfl, by simpa using h⟩
    · exact .inl rfl
  clear hT hb h p0 p1 f0 f1 r0 r1 h1 h2 h3
  rcases hc with a | ⟨a, b⟩
  all_goals
    go_enter Tryz.func76, Tryz.ntmps76
    go_wp2
    go_ret
    exact ⟨rfl, HB.out⟩
end
end Go.Proofs.YtpfmmlbakbhklaaGreatDoor
