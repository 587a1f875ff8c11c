/- The walk of ActRun: for every list of acts and every place to part it the call returns true; nothing that lay before is changed. Condition: the tables stand in their variables. -/
import Derived.Test.YtoeopapnegjooaaDoorX
namespace Go.Proofs.YtoeopapnegjooaaDoor
open Go.RowKit

set_option maxRecDepth 100000 in
set_option maxHeartbeats 1000000 in
theorem run_long (q : Option Addr) (n c : Nat) (kb : Nat) (hn : 60 < n) (w : World) (h : Std w) :
    Calls Tryd.prog 8 #[.slice q n c, .int .u8 kb] w fun e w' => e = .returned (.bool true) ∧ Below w.heap.size w w' := by
  have HS := Lib.hid h
  have hd : decide ((60 : Int) < n) = true := by simp; omega
  clear h hn
  go_enter Tryd.func8, Tryd.ntmps8
  go_wp2_with fail
  refine (new_yes 8 _ (by decide) (by decide)).mono ?_
  rintro e w1 ⟨rfl, hM, hB⟩
  have HB1 := Lib.hid hB
  clear hM hB
  go_wp2_with fail
  refine (new_yes 8 _ (by decide) (by decide)).mono ?_
  rintro e w2 ⟨rfl, hM, hB⟩
  have HB2 := Lib.hid (bel_trans HB1.out hB)
  clear hM hB
  go_wp2_with fail
  refine (known_yes _ (HS.out.below HB2.out)).mono ?_
  rintro e w3 ⟨rfl, K⟩
  go_wp2
  go_ret
  exact ⟨rfl, bel_trans HB2.out K⟩

set_option maxRecDepth 100000 in
set_option maxHeartbeats 1000000 in
theorem run_short (q : Option Addr) (n c : Nat) (l : List Ac) (kb : Nat) (hkb : kb < 256) (hn : n ≤ 60) (hl : l.length = n) (hc : n ≤ c) (w : World) (h : Std w) (hA : Acts w q l) :
    Calls Tryd.prog 8 #[.slice q n c, .int .u8 kb] w fun e w' => e = .returned (.bool true) ∧ Below w.heap.size w w' := by
  have HS := Lib.hid h
  have HA := Lib.hid hA
  have HL := Lib.hid hl
  have hd : decide ((60 : Int) < n) = false := by simp; omega
  obtain ⟨k, hk⟩ : ∃ k, kb % (n + 1) = k := ⟨_, rfl⟩
  have hkn : k ≤ n := by have := Nat.mod_lt kb (show 0 < n + 1 by omega); omega
  have hmod : (kb : Int) % ((n : Int) + 1) = (k : Int) := by rw [← hk]; simp
  have htm : (kb : Int).tmod ((n : Int) + 1) = (k : Int) := by rw [Int.tmod_eq_emod_of_nonneg (by omega)]; exact hmod
  have hwm : (wrap64 (kb : Int)).tmod ((n : Int) + 1) = (k : Int) := by
    have : wrap64 (kb : Int) = kb := by simp (disch := omega) only [IntWalk.wrap64_in]
    rw [this]; exact htm
  clear hmod
  have hz : (((n : Int) + 1) == 0) = false := by simp; omega
  have hs1 := run_head q n c k (by omega)
  have hs2 := run_rest q n c k hkn
  have HKN := Lib.hid hkn
  have HC := Lib.hid hc
  clear h hA hl hk
  go_enter Tryd.func8, Tryd.ntmps8
  go_wp2_with fail
  refine (new_yes 8 _ (by decide) (by decide)).mono ?_
  rintro e w1 ⟨rfl, hM1, hB1⟩
  have HM1 : Hid (Mem 62 w1 (w.heap.size + 1) w.heap.size st8) := Lib.hid hM1
  have HB1 := Lib.hid hB1
  clear hM1 hB1
  go_wp2_with fail
  refine (new_yes 8 _ (by decide) (by decide)).mono ?_
  rintro e w2 ⟨rfl, hM2, hB2⟩
  have u1 := HM1.out.lt
  have v1 := HB1.out.size
  have H2 : Tw w w2 (w.heap.size + 1) w.heap.size st8 (w1.heap.size + 1) w1.heap.size st8 :=
    ⟨HM1.out.below hB2, hM2, bel_trans HB1.out hB2, by omega, by omega, by omega, by omega, by omega, by omega, by omega, by omega⟩
  have HH2 := Lib.hid H2
  have u2 := H2.m2.lt
  clear hM2 hB2 H2 HM1 HB1
  go_wp2_with fail
  refine (run_ex (m := 0) HH2.out.m1 (cnt8 0) (by decide) q n c l HL.out (by omega) (HA.out.script HH2.out.bel HH2.out.h1 HH2.out.h2)).mono ?_
  rintro e w3 ⟨ga, rfl, hga, hRa, hT⟩
  have HH3 := Lib.hid (HH2.out.left hT)
  have HRa := Lib.hid hRa
  have u3 := hRa.lt
  clear hT HH2 hRa
  go_wp2_with fail
  refine (run_ex (m := 0) HH3.out.m2 (cnt8 0) (by decide) q k c (l.take k) (by have := HL.out; have := HKN.out; simp; omega) (by omega) ((HA.out.take k).script HH3.out.bel HH3.out.h3 HH3.out.h4)).mono ?_
  rintro e w4 ⟨gb, rfl, hgb, hRb, hT⟩
  have HH4 := Lib.hid (HH3.out.right hT)
  have HRa4 := Lib.hid (HRa.out.keep (hT.2.block _ HRa.out.lt (by omega) (by omega)))
  have HRb := Lib.hid hRb
  have u4 := hRb.lt
  clear hT HH3 hRb HRa
  go_wp2_with fail
  refine (run_ex (m := 100) HH4.out.m2 (cnt_run _ (by have := List.length_take_le k l; omega) 100 (by omega)) (by decide) (restQ q c k) (n - k) (c - k) (l.drop k) (by have := HL.out; simp; omega) (by omega) ((HA.out.drop k c (by have := HL.out; have := HC.out; omega)).script HH4.out.bel HH4.out.h3 HH4.out.h4)).mono ?_
  rintro e w5 ⟨gc, rfl, hgc, hRc, hT⟩
  have HH5 := HH4.out.right hT
  rw [runT_parts] at HH5
  have HH5 := Lib.hid HH5
  have HRa5 := Lib.hid (HRa4.out.keep (hT.2.block _ HRa4.out.lt (by omega) (by omega)))
  have HRb5 := Lib.hid (HRb.out.keep (hT.2.block _ HRb.out.lt (by omega) (by omega)))
  have HRc := Lib.hid hRc
  have u5 := hRc.lt
  clear hT HH4 hRc HRa4 HRb
  obtain ⟨cb, hcb, fb⟩ := id HRb5.out
  obtain ⟨cc, hcc, fc⟩ := id HRc.out
  have pc := res_plain hcc HRc.out
  obtain ⟨i37, hi, hz0, hz1, hz2⟩ := info37'
  have hzz : zre.cells.size = 3 := rfl
  have HFB := Lib.hid fb
  have HFC := Lib.hid fc
  have HCB := Lib.hid hcb
  have HCC := Lib.hid hcc
  have HPC := Lib.hid pc
  clear fb fc hcb hcc pc
  go_wp2_with (at_builtin; (refine wpList_append_own _ rfl _ _ 31 rfl (w1.heap.size + 2) 37 i37 zre 3 24 Tryd.underlying31 hi hz0 hz1 hz2 hzz (by decide) _ k cb.toList rfl ?o0 ⟨gc, 0, none⟩ (n - k) _ cc.toList rfl ?c0 ?c1 ?c2 ?c3 ?c4 ?c5 ?_))
  case o0 => exact ⟨by simp [HFB.out.1], Or.inr ⟨gb, k, cb, rfl, by omega, HCB.out, Nat.le_refl _, by unfold maxLen; omega, HFB.out.1, by rw [List.take_of_length_le (by simp [HFB.out.1])]⟩⟩
  case c0 => simp [HFC.out.1]
  case c1 =>
    intro j u hu
    rw [add_none, Nat.zero_add]
    exact cell_of HCC.out (by rw [← Array.getElem?_toList]; exact hu)
  case c2 => exact HPC.out.2
  case c3 => unfold maxLen; omega
  case c4 => omega
  case c5 => omega
  intro v' w6 hown hgrow hnil
  have hvn : ¬ v' = .slice none 0 0 := hnil
  have hown' : w6.ownsRow (w1.heap.size + 2) 37 3 v' (k + (n - k)) (cb.toList ++ cc.toList) := by
    rw [show k + (n - k) = n by omega]; exact hown
  obtain ⟨gd, cd, hv', hgd, hRd⟩ := res_append (h := resF st8 l) HKN.out HFB.out HFC.out (fun i hi => resF_take _ _ _ _ hi) (fun i _ => resF_drop _ _ _ _) hown' hvn
  subst hv'
  have hgr : w5.grownBy w6 (some gb) := hgrow
  have HH6 := Lib.hid (HH5.out.grown hgr (by omega) (by omega) (by omega) (by omega) (by omega))
  have HRa6 := Lib.hid (HRa5.out.keep (hgr.block _ HRa5.out.lt (by simp; omega)))
  have HRd := Lib.hid hRd
  clear hown hown' hgrow hgr hnil hvn hRd HH5 HRa5 HRb5 HRc HFB HFC HCB HCC HPC hi hz0 hz1 hz2 hzz hs1 hs2
  go_wp2
  go_loopw [12] (fun i wr => ∃ j m : Nat, j ≤ n ∧ i = .int .i64 j ∧ wr = w6.drewN m) (fun i _ => n - (intOf i).toNat)
  case atStart => exact ⟨0, 0, Nat.zero_le _, rfl, rfl⟩
  case round =>
    obtain ⟨j, m, hj, rfl, hwr⟩ := hrel
    have HW : Hid (wr = w6.drewN m) := Lib.hid hwr
    have hcell : ∀ a, wr.cell? a = w6.cell? a := fun a => by rw [hwr]; simp
    by_cases hlt : j < n
    · obtain ⟨a0, a1, a2⟩ := HRa6.out.cells j hlt
      obtain ⟨b0, b1, b2⟩ := HRd.out j hlt
      rw [← hcell] at a0 a1 a2 b0 b1 b2
      clear hwr hcell
      generalize (resF st8 l j).v = rv at a0 b0
      generalize (resF st8 l j).ok = ro at a1 b1
      generalize (resF st8 l j).e = re at a2 b2
      go_wp2
      go_quiet (fail)
      go_wp2
      refine ⟨⟨j + 1, m + nq, by omega, by go_num, ?_⟩, by simp [intOf]; omega⟩
      rw [HW.out]; simp [World.drewN_drewN]
    · clear hwr hcell
      have HBw : Hid (Below w6.heap.size w6 wr) := Lib.hid (by rw [HW.out]; exact below_drewN (Below.refl _ _) m)
      have HHw := Lib.hid (HH6.out.below HBw.out)
      go_wp2_with fail
      refine (words_any HHw.out.m1 0 8 (by decide)).mono ?_
      rintro e w9 ⟨v, rfl, hLi, K⟩
      have HH9 := Lib.hid (HHw.out.below K)
      have HLi := Lib.hid hLi
      clear K hLi
      go_wp2_with fail
      refine (words_any HH9.out.m2 0 8 (by decide)).mono ?_
      rintro e w10 ⟨v', rfl, hLi', K⟩
      have HH10 := Lib.hid (HH9.out.below K)
      have HLj := Lib.hid (HLi.out.below K)
      have HLk := Lib.hid hLi'
      clear K HH9 hLi' HLi
      go_wp2_with fail
      refine (same_any HLj.out HLk.out).mono ?_
      rintro e w11 ⟨rfl, K⟩
      have HH11 := Lib.hid (HH10.out.below K)
      clear K HH10
      go_wp2_with fail
      refine (known_yes _ (HS.out.below HH11.out.bel)).mono ?_
      rintro e w12 ⟨rfl, K⟩
      go_wp2
      go_ret
      exact ⟨rfl, bel_trans HH11.out.bel K⟩

theorem run_walk (q : Option Addr) (n c : Nat) (l : List Ac) (kb : Nat) (hkb : kb < 256) (hl : l.length = n) (hc : n ≤ c) (w : World) (h : Std w) (hA : Acts w q l) :
    Calls Tryd.prog 8 #[.slice q n c, .int .u8 kb] w fun e w' => e = .returned (.bool true) ∧ Below w.heap.size w w' := by
  by_cases hn : 60 < n
  · exact run_long q n c kb hn w h
  · exact run_short q n c l kb hkb (by omega) hl hc w h hA
end Go.Proofs.YtoeopapnegjooaaDoor
