/- The fixed calls that every statement of this seat ends with return true; nothing that lay before is changed. No conditions. -/
import Derived.Test.YtidgajjahpbbdaaS5
namespace Go.Proofs.Ytidgajjahpbbdaa
open Go.RowKit

/-- What stands while the fixed calls are made. -/
structure Kn (w0 w : World) (p b g h : Nat) (s : St) (x y : Ho) : Prop where
  mem : Mem 59 w p b s
  one : IsHo w g x
  two : IsHo w h y
  bel : Below w0.heap.size w0 w
  gp : g ≠ p
  gb : g ≠ b
  hp : h ≠ p
  hb : h ≠ b
  gh : g ≠ h
  p0 : w0.heap.size ≤ p
  b0 : w0.heap.size ≤ b
  g0 : w0.heap.size ≤ g
  h0 : w0.heap.size ≤ h
theorem Kn.below {w0 w w' : World} {p b g h : Nat} {s : St} {x y : Ho} (H : Kn w0 w p b g h s x y) (k : Below w.heap.size w w') : Kn w0 w' p b g h s x y :=
  { H with mem := H.mem.below k, one := H.one.below k, two := H.two.below k, bel := bel_trans H.bel k }
theorem Kn.stepA {w0 w w' : World} {p b g h : Nat} {s s' : St} {x x' y : Ho} (H : Kn w0 w p b g h s x y) (k : Hs w' p b g s' x' ∧ But3 g p b w w') : Kn w0 w' p b g h s' x' y :=
  { H with mem := k.1.mem, one := k.1.ho, two := H.two.keep (k.2.block _ H.two.lt H.gh.symm H.hp H.hb), bel := k.2.bel H.bel H.g0 H.p0 H.b0 }
theorem Kn.stepB {w0 w w' : World} {p b g h : Nat} {s s' : St} {x y y' : Ho} (H : Kn w0 w p b g h s x y) (k : Hs w' p b h s' y' ∧ But3 h p b w w') : Kn w0 w' p b g h s' x y' :=
  { H with mem := k.1.mem, two := k.1.ho, one := H.one.keep (k.2.block _ H.one.lt H.gh H.gp H.gb), bel := k.2.bel H.bel H.h0 H.p0 H.b0 }
theorem Kn.leaveA {w0 w w' : World} {p b g h : Nat} {s : St} {x x' y : Ho} (H : Kn w0 w p b g h s x y) (k : IsHo w' g x' ∧ But g g w w') : Kn w0 w' p b g h s x' y :=
  H.stepA ⟨⟨H.mem.but k.2 H.gp.symm H.gp.symm H.gb.symm H.gb.symm, k.1, H.gp, H.gb⟩, But3.of_one k.2⟩
theorem Kn.hsA {w0 w : World} {p b g h : Nat} {s : St} {x y : Ho} (H : Kn w0 w p b g h s x y) : Hs w p b g s x := ⟨H.mem, H.one, H.gp, H.gb⟩
theorem Kn.hsB {w0 w : World} {p b g h : Nat} {s : St} {x y : Ho} (H : Kn w0 w p b g h s x y) : Hs w p b h s y := ⟨H.mem, H.two, H.hp, H.hb⟩
theorem holder_any (w : World) (ad : Int) (h0 : 0 ≤ ad) (h1 : ad ≤ 65000) :
    Calls Try.prog 22 #[.agg #[.int .i64 ad]] w fun e w' => ∃ g, e = .returned (.pointer (some ⟨g, 0, none⟩)) ∧ IsHo w' g ⟨ad, false, 0, 0⟩ ∧ w.heap.size ≤ g ∧ Below w.heap.size w w' := by
  refine (holder_at w ad h0 h1).mono ?_
  rintro e w' ⟨rfl, h, hB⟩
  exact ⟨_, rfl, h, by omega, hB⟩
theorem kn_first {g h : Nat} {w w1 w2 w3 : World} {s : St} {x y : Ho} (hM : IsMem 59 w1 (w.heap.size + 1) w.heap.size s.xs s.d s.l) (hB1 : Below w.heap.size w w1)
    (hA : IsHo w2 g x) (hg : (w1.alloc (.cells #[.int .i64 1] 61)).heap.size ≤ g) (hB2 : Below (w1.alloc (.cells #[.int .i64 1] 61)).heap.size (w1.alloc (.cells #[.int .i64 1] 61)) w2)
    (hC : IsHo w3 h y) (hh : w2.heap.size ≤ h) (hB3 : Below w2.heap.size w2 w3) : Kn w w3 (w.heap.size + 1) w.heap.size g h s x y := by
  have k1 := bel_trans (bel_trans (below_alloc w1 (.cells #[.int .i64 1] 61)) hB2) hB3
  have u1 := hM.lt
  have u2 := hA.lt
  have u3 := hB1.size
  have u4 : w1.heap.size ≤ (w1.alloc (.cells #[.int .i64 1] 61)).heap.size := (below_alloc w1 (.cells #[.int .i64 1] 61)).size
  exact ⟨hM.below k1, hA.below hB3, hC, bel_trans hB1 k1, by omega, by omega, by omega, by omega, by omega, by omega, by omega, by omega, by omega⟩

def hokB (x : Ho) : Bool := decide (0 ≤ x.ad ∧ x.ad ≤ 65000 ∧ 0 ≤ x.tk ∧ x.tk ≤ 18446744073709551615)
theorem hok_of {x : Ho} (h : hokB x = true) : HOk x := by
  obtain ⟨a, b, c, d⟩ := of_decide_eq_true h
  exact ⟨a, b, c, d⟩
def cntB (s : St) (k : Nat) : Bool := decide (0 ≤ s.d ∧ s.d ≤ k ∧ 0 ≤ s.l ∧ s.l ≤ k)

set_option maxRecDepth 100000 in
set_option maxHeartbeats 2000000 in
theorem known_yes (w : World) : Calls Try.prog 11 #[] w fun e w' => e = .returned (.bool true) ∧ Below w.heap.size w w' := by
  go_enter Try.func11, Try.ntmps11
  go_wp2_with fail
  refine (new_yes 4 _ (by decide) (by decide)).mono ?_
  rintro e w1 ⟨rfl, hM1, hB1⟩
  have HM1 := hid hM1
  have HB1 := hid hB1
  have u1 := hM1.lt
  clear hM1 hB1
  have l1 := heap_alloc_new w1 (.cells #[.int .i64 1] 61 (0, 0))
  have c0 : (w1.alloc (.cells #[.int .i64 1] 61)).cell? ⟨w1.heap.size, 0, none⟩ = some (.int .i64 1) := cell_of l1 rfl
  have HL1 := hid l1
  clear l1
  go_wp2_with fail
  refine (holder_any _ 1 (by decide) (by decide)).mono ?_
  rintro e w2 ⟨g, rfl, hA, hg, hB2⟩
  have c1 : w2.cell? ⟨w1.heap.size, 0, none⟩ = some (.int .i64 1) := cell_of ((hB2.block _ (lt_of_block HL1.out)).trans HL1.out) rfl
  have HA := hid hA
  have HG := hid hg
  have HB2 := hid hB2
  clear hA hg hB2 c0
  go_wp2_with fail
  refine (holder_any _ 1 (by decide) (by decide)).mono ?_
  rintro e w3 ⟨h, rfl, hC, hh, hB3⟩
  have K0 : Hid (Kn w w3 (w.heap.size + 1) w.heap.size g h ⟨[0, 0, 0, 0], 0, 0⟩ ⟨1, false, 0, 0⟩ ⟨1, false, 0, 0⟩) := hid (kn_first (s := ⟨[0, 0, 0, 0], 0, 0⟩) HM1.out HB1.out HA.out HG.out HB2.out hC hh hB3)
  clear hC hh hB3 HG HM1 HB1 HA HB2 HL1 c1 u1
  generalize w.heap.size + 1 = p at *
  generalize hq : w.heap.size = q at *
  clear hq
  go_wp2_with fail
  refine (hstep_at (k := 20) K0.out.hsA (hok_of (by kernel_rfl)) ⟨by decide, by decide, by decide, by decide⟩ (by decide)).mono ?_
  rintro e w4 ⟨rfl, hY⟩
  rw [show hT ⟨[0, 0, 0, 0], 0, 0⟩ ⟨1, false, 0, 0⟩ = ⟨[0, 1, 0, 0], 1, 1⟩ from by kernel_rfl, show hX ⟨[0, 0, 0, 0], 0, 0⟩ ⟨1, false, 0, 0⟩ = ⟨1, false, 1, 0⟩ from by kernel_rfl] at hY
  rw [show hX ⟨[0, 0, 0, 0], 0, 0⟩ ⟨1, false, 0, 0⟩ = ⟨1, false, 1, 0⟩ from by kernel_rfl]
  have K1 := hid (K0.out.stepA hY)
  clear hY K0
  go_wp2_with fail
  refine (hstep_at (k := 20) K1.out.hsB (hok_of (by kernel_rfl)) ⟨by decide, by decide, by decide, by decide⟩ (by decide)).mono ?_
  rintro e w5 ⟨rfl, hY⟩
  rw [show hT ⟨[0, 1, 0, 0], 1, 1⟩ ⟨1, false, 0, 0⟩ = ⟨[0, 2, 0, 0], 2, 2⟩ from by kernel_rfl, show hX ⟨[0, 1, 0, 0], 1, 1⟩ ⟨1, false, 0, 0⟩ = ⟨1, false, 1, 1⟩ from by kernel_rfl] at hY
  rw [show hX ⟨[0, 1, 0, 0], 1, 1⟩ ⟨1, false, 0, 0⟩ = ⟨1, false, 1, 1⟩ from by kernel_rfl]
  have K2 := hid (K1.out.stepB hY)
  clear hY K1
  go_wp2_with fail
  refine (hstep_at (k := 20) K2.out.hsB (hok_of (by kernel_rfl)) ⟨by decide, by decide, by decide, by decide⟩ (by decide)).mono ?_
  rintro e w6 ⟨rfl, hY⟩
  rw [show hT ⟨[0, 2, 0, 0], 2, 2⟩ ⟨1, false, 1, 1⟩ = ⟨[0, 2, 0, 0], 3, 2⟩ from by kernel_rfl, show hX ⟨[0, 2, 0, 0], 2, 2⟩ ⟨1, false, 1, 1⟩ = ⟨1, false, 1, 1⟩ from by kernel_rfl] at hY
  rw [show hX ⟨[0, 2, 0, 0], 2, 2⟩ ⟨1, false, 1, 1⟩ = ⟨1, false, 1, 1⟩ from by kernel_rfl]
  have K3 := hid (K2.out.stepB hY)
  clear hY K2
  go_wp2_with fail
  refine (hstep_at (k := 20) K3.out.hsA (hok_of (by kernel_rfl)) ⟨by decide, by decide, by decide, by decide⟩ (by decide)).mono ?_
  rintro e w7 ⟨rfl, hY⟩
  rw [show hT ⟨[0, 2, 0, 0], 3, 2⟩ ⟨1, false, 1, 0⟩ = ⟨[0, 2, 0, 0], 4, 2⟩ from by kernel_rfl, show hX ⟨[0, 2, 0, 0], 3, 2⟩ ⟨1, false, 1, 0⟩ = ⟨1, false, 2, 0⟩ from by kernel_rfl] at hY
  rw [show hX ⟨[0, 2, 0, 0], 3, 2⟩ ⟨1, false, 1, 0⟩ = ⟨1, false, 2, 0⟩ from by kernel_rfl]
  have K4 := hid (K3.out.stepA hY)
  clear hY K3
  go_wp2_with fail
  refine (state_at K4.out.two).mono ?_
  rintro e w8 ⟨rfl, m, hm⟩
  have K5 := hid (K4.out.below (w' := w8) (by rw [hm]; exact below_drewN (Below.refl _ _) m))
  clear hm K4
  go_wp2_with fail
  refine (leave_at K5.out.one).mono ?_
  rintro e w9 ⟨rfl, hY⟩
  rw [show lvT ⟨1, false, 2, 0⟩ = ⟨1, true, 2, 0⟩ from by kernel_rfl] at hY
  rw [show lvV ⟨1, false, 2, 0⟩ = true from by kernel_rfl]
  have K6 := hid (K5.out.leaveA hY)
  clear hY K5
  go_wp2_with fail
  refine (leave_at K6.out.one).mono ?_
  rintro e w10 ⟨rfl, hY⟩
  rw [show lvT ⟨1, true, 2, 0⟩ = ⟨1, true, 2, 0⟩ from by kernel_rfl] at hY
  rw [show lvV ⟨1, true, 2, 0⟩ = false from by kernel_rfl]
  have K7 := hid (K6.out.leaveA hY)
  clear hY K6
  go_wp2_with fail
  refine (hstep_at (k := 20) K7.out.hsA (hok_of (by kernel_rfl)) ⟨by decide, by decide, by decide, by decide⟩ (by decide)).mono ?_
  rintro e w11 ⟨rfl, hY⟩
  rw [show hT ⟨[0, 2, 0, 0], 4, 2⟩ ⟨1, true, 2, 0⟩ = ⟨[0, 2, 1, 0], 5, 3⟩ from by kernel_rfl, show hX ⟨[0, 2, 0, 0], 4, 2⟩ ⟨1, true, 2, 0⟩ = ⟨1, true, 3, 0⟩ from by kernel_rfl] at hY
  rw [show hX ⟨[0, 2, 0, 0], 4, 2⟩ ⟨1, true, 2, 0⟩ = ⟨1, true, 3, 0⟩ from by kernel_rfl]
  have K8 := hid (K7.out.stepA hY)
  clear hY K7
  go_wp2_with fail
  refine (hstep_at (k := 20) K8.out.hsB (hok_of (by kernel_rfl)) ⟨by decide, by decide, by decide, by decide⟩ (by decide)).mono ?_
  rintro e w12 ⟨rfl, hY⟩
  rw [show hT ⟨[0, 2, 1, 0], 5, 3⟩ ⟨1, false, 1, 1⟩ = ⟨[0, 2, 1, 0], 6, 3⟩ from by kernel_rfl, show hX ⟨[0, 2, 1, 0], 5, 3⟩ ⟨1, false, 1, 1⟩ = ⟨1, false, 2, 1⟩ from by kernel_rfl] at hY
  rw [show hX ⟨[0, 2, 1, 0], 5, 3⟩ ⟨1, false, 1, 1⟩ = ⟨1, false, 2, 1⟩ from by kernel_rfl]
  have K9 := hid (K8.out.stepB hY)
  clear hY K8
  have K10 := hid (K9.out.below (below_alloc w12 (.cells #[.int .i64 (-1)] 61)))
  have l9 := heap_alloc_new w12 (.cells #[.int .i64 (-1)] 61 (0, 0))
  have HL9 := hid l9
  clear K9 l9
  go_wp2_with fail
  refine (hnext_at K10.out.one (hok_of (by kernel_rfl))).mono ?_
  rintro e wa ⟨rfl, hY⟩
  rw [show hNext ⟨1, true, 3, 0⟩ = ⟨0, 0, 0, 0⟩ from by kernel_rfl]
  have c9 : wa.cell? ⟨w12.heap.size, 0, none⟩ = some (.int .i64 (-1)) := cell_of ((hY.block _ (lt_of_block HL9.out)).trans HL9.out) rfl
  have K11 := hid (K10.out.below hY)
  clear hY K10 HL9
  go_wp2_with fail
  refine (holder_no _ (-1) (by decide)).mono ?_
  rintro e wb ⟨rfl, hY⟩
  have HB := hid (K11.out.below hY).bel
  clear hY K11 c9
  go_wp2
  go_ret
  exact ⟨rfl, HB.out⟩
end Go.Proofs.Ytidgajjahpbbdaa
