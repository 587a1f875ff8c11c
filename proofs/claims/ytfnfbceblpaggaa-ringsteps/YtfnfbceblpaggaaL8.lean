/- The walk of RingStuck: for every value and number the call returns true; nothing that lay before is changed. No conditions. -/
import Derived.Test.YtfnfbceblpaggaaL6
namespace Go.Proofs.Ytfnfbceblpaggaa
open Go.RowKit

/-- A ring that is used, and one who pushes. -/
structure Ks (w0 : World) (p b r g : Nat) (ad n : Int) (w : World) (s : St) (x : Pr) : Prop where
  kn : Kn w0 p b r ad n w s
  pr : IsPr 87 w g x
  gp : g ≠ p
  gb : g ≠ b
  gr : g ≠ r
  g0 : w0.heap.size ≤ g
theorem Ks.hs {w0 w : World} {p b r g : Nat} {ad n : Int} {s : St} {x : Pr} (H : Ks w0 p b r g ad n w s x) : Hs 87 w p b g s x := ⟨H.kn.mem, H.pr, H.gp, H.gb⟩
theorem Ks.below {w0 w w' : World} {p b r g : Nat} {ad n : Int} {s : St} {x : Pr} (H : Ks w0 p b r g ad n w s x) (k : Below w.heap.size w w') : Ks w0 p b r g ad n w' s x :=
  { H with kn := H.kn.below k, pr := H.pr.below k }
theorem Ks.turn {w0 w w' : World} {p b r g : Nat} {ad n : Int} {s s' : St} {x : Pr} (H : Ks w0 p b r g ad n w s x) (T : Turns 77 p b w w' s') : Ks w0 p b r g ad n w' s' x :=
  { H with kn := H.kn.turn T, pr := H.pr.keep (T.2.block _ H.pr.lt H.gp H.gb) }
theorem But3.bel' {g p b : Nat} {w0 w w' : World} (h : But3 g p b w w') (k : Below w0.heap.size w0 w) (h1 : w0.heap.size ≤ g) (h2 : w0.heap.size ≤ p) (h3 : w0.heap.size ≤ b) : Below w0.heap.size w0 w' :=
  ⟨h.os.trans k.os, h.tape.trans k.tape, h.output.trans k.output, Nat.le_trans k.size h.size, fun i hi => (h.block i (Nat.lt_of_lt_of_le hi k.size) (by omega) (by omega) (by omega)).trans (k.block i hi)⟩
theorem Ks.step {w0 w w' : World} {p b r g : Nat} {ad n : Int} {s s' : St} {x x' : Pr} (H : Ks w0 p b r g ad n w s x) (T : Hs 87 w' p b g s' x' ∧ But3 g p b w w') : Ks w0 p b r g ad n w' s' x' :=
  { H with
    kn := { H.kn with mem := T.1.mem, ring := (T.2.block _ (lt_of_block H.kn.ring) H.gr.symm H.kn.rp H.kn.rb).trans H.kn.ring, bel := T.2.bel' H.kn.bel H.g0 H.kn.p0 H.kn.b0 }
    pr := T.1.pr }
theorem run_tail (s : St) (x : Pr) : ∀ k, run (k + 1) s x = (pT (run k s x).1 (run k s x).2, pX (run k s x).1 (run k s x).2)
  | 0 => rfl
  | k + 1 => by rw [run, run_tail _ _ k]; rfl
theorem run_ok : ∀ (k : Nat) {s : St} {x : Pr} {c : Nat}, SOk s → YOk x → Cnt s c → SOk (run k s x).1 ∧ YOk (run k s x).2 ∧ Cnt (run k s x).1 (c + k)
  | 0, _, _, _, hs, hx, hc => ⟨hs, hx, hc⟩
  | k + 1, _, x, c, hs, hx, hc => by
    have := run_ok k (hs.next hx) (hx.next hs) (hc.next x)
    rw [run]
    exact ⟨this.1, this.2.1, this.2.2.mono (by omega)⟩
theorem q04 : QOk 0 4 := ⟨by decide, by decide, by decide, by decide⟩

def sk0 : St := (initR ⟨List.replicate 40 0, 0, 0⟩ 0 (emp 4)).1
/-- The words behind each of the calls of RingStuck, if the push that stops has done m steps. -/
def sk1 (m : Nat) (v : Int) : St := (run m sk0 (newP 0 4 v)).1
def sx1 (m : Nat) (v : Int) : Pr := (run m sk0 (newP 0 4 v)).2
def sk2 (m : Nat) (v : Int) : St := (run 10 (sk1 m v) (newP 0 4 7)).1
def sk3 (m : Nat) (v : Int) : St := (run 10 (sk2 m v) (newG 0 4)).1
def sk4 (m : Nat) (v : Int) : St := pT (sk3 m v) (sx1 m v)
def sx4 (m : Nat) (v : Int) : Pr := pX (sk3 m v) (sx1 m v)
def sk5 (m : Nat) (v : Int) : St := pT (sk4 m v) (sx4 m v)
def sx5 (m : Nat) (v : Int) : Pr := pX (sk4 m v) (sx4 m v)
def sk6 (m : Nat) (v : Int) : St := (run 10 (sk5 m v) (newG 0 4)).1
def sk7 (m : Nat) (v : Int) : St := (run 10 (sk6 m v) (newG 0 4)).1
theorem sk_ok (m : Nat) (hm : m ≤ 4) (v : Int) (h0 : 0 ≤ v) (h1 : v ≤ 18446744073709551615) :
    (SOk (sk1 m v) ∧ YOk (sx1 m v) ∧ Cnt (sk1 m v) 300) ∧ (SOk (sk2 m v) ∧ Cnt (sk2 m v) 320) ∧ (SOk (sk3 m v) ∧ Cnt (sk3 m v) 340) ∧ (SOk (sk4 m v) ∧ YOk (sx4 m v) ∧ Cnt (sk4 m v) 360) ∧ (SOk (sk5 m v) ∧ Cnt (sk5 m v) 380) ∧ (SOk (sk6 m v) ∧ Cnt (sk6 m v) 400) := by
  have a0 : SOk sk0 := sok_of (by kernel_rfl)
  have b0 : Cnt sk0 200 := cnt_of (by kernel_rfl)
  have x1 := run_ok m a0 (newP_ok q04 h0 h1) b0
  have x2 := run_ok 10 x1.1 (newP_ok q04 (v := 7) (by decide) (by decide)) x1.2.2
  have x3 := run_ok 10 x2.1 (newG_ok q04) x2.2.2
  have s4 := x3.1.next x1.2.1
  have y4 := x1.2.1.next x3.1
  have c4 := x3.2.2.next (sx1 m v)
  have s5 := s4.next y4
  have c5 := c4.next (sx4 m v)
  have x6 := run_ok 10 s5 (newG_ok q04) c5
  exact ⟨⟨x1.1, x1.2.1, x1.2.2.mono (by omega)⟩, ⟨x2.1, x2.2.2.mono (by omega)⟩, ⟨x3.1, x3.2.2.mono (by omega)⟩, ⟨s4, y4, c4.mono (by omega)⟩, ⟨s5, c5.mono (by omega)⟩, ⟨x6.1, x6.2.2.mono (by omega)⟩⟩
theorem sk_says (m : Nat) (h3 : 3 ≤ m) (h4 : m ≤ 4) (v : Int) :
    ((run 10 (sk1 m v) (newP 0 4 7)).2.wh && ((run 10 (sk1 m v) (newP 0 4 7)).2.tn == 5)) = true ∧
    ((run 10 (sk2 m v) (newG 0 4)).2.wh && gotD (run 10 (sk2 m v) (newG 0 4)).2) = false ∧
    gotV (run 10 (sk5 m v) (newG 0 4)).2 = v ∧ ((run 10 (sk5 m v) (newG 0 4)).2.wh && gotD (run 10 (sk5 m v) (newG 0 4)).2) = true ∧
    gotV (run 10 (sk6 m v) (newG 0 4)).2 = 7 ∧ ((run 10 (sk6 m v) (newG 0 4)).2.wh && gotD (run 10 (sk6 m v) (newG 0 4)).2) = true := by
  obtain rfl | rfl : m = 3 ∨ m = 4 := by omega
  · exact ⟨by kernel_rfl, by kernel_rfl, by kernel_rfl, by kernel_rfl, by kernel_rfl, by kernel_rfl⟩
  · exact ⟨by kernel_rfl, by kernel_rfl, by kernel_rfl, by kernel_rfl, by kernel_rfl, by kernel_rfl⟩

set_option maxRecDepth 100000 in
set_option maxHeartbeats 2000000 in
theorem stuck_walk (v : Int) (h0 : 0 ≤ v) (h1 : v ≤ 18446744073709551615) (y : Nat) (hy : y < 256) (w : World) :
    Calls Try.prog 8 #[.int .u64 v, .int .u8 y] w fun e w' => e = .returned (.bool true) ∧ Below w.heap.size w w' := by
  obtain ⟨m, hm⟩ : ∃ m : Nat, 3 + y % 2 = m := ⟨_, rfl⟩
  have hm3 : 3 ≤ m := by omega
  have hm4 : m ≤ 4 := by omega
  have hy0 : (0 : Int) ≤ (y : Int) := by omega
  have hy1 : (y : Int) < 256 := by omega
  obtain ⟨c, hc⟩ : ∃ c : Nat, y % 2 = c := ⟨_, rfl⟩
  have hmc : (m : Int) = 3 + (c : Int) := by omega
  have HMC := hid hmc
  have hcb : c < 2 := by omega
  have HM : Hid ((y : Int).tmod 2 = (c : Int)) := hid (by rw [Int.tmod_eq_emod_of_nonneg (by omega)]; omega)
  clear hc hmc
  obtain ⟨o1, o2, o3, o4, o5, o6⟩ := sk_ok m hm4 v h0 h1
  obtain ⟨y1, y2, y3, y4, y5, y6⟩ := sk_says m hm3 hm4 v
  have O1 := hid o1
  have O2 := hid o2
  have O3 := hid o3
  have O4 := hid o4
  have O5 := hid o5
  have O6 := hid o6
  have Y1 := hid y1
  have Y2 := hid y2
  have Y3 := hid y3
  have Y4 := hid y4
  have Y5 := hid y5
  have Y6 := hid y6
  have V0 := hid h0
  have V1 := hid h1
  clear o1 o2 o3 o4 o5 o6 y1 y2 y3 y4 y5 y6 hm h0 h1
  go_enter Try.func8, Try.ntmps8
  go_wp2_with fail
  refine (new_yes 40 _ (by decide) (by decide)).mono ?_
  rintro e w1 ⟨rfl, hM1, hB1⟩
  have K0 := hid (Kn.first (s := ⟨List.replicate 40 0, 0, 0⟩) 0 4 hM1 hB1)
  clear hM1 hB1
  have c0 := K0.out.c0
  have c1 := K0.out.c1
  generalize w.heap.size + 1 = p at *
  generalize hq : w.heap.size = q at *
  clear hq
  go_wp2_with fail
  refine (init_at (c := 0) K0.out.mem (cnt_of (by kernel_rfl)) (by decide) 4 0 q04).mono ?_
  rintro e wa ⟨rfl, T⟩
  rw [show (initR ⟨List.replicate 40 0, 0, 0⟩ 0 (emp 4)).2 = 0 from by kernel_rfl]
  have J0 : Hid (Kn w p q w1.heap.size 0 4 wa sk0) := hid (K0.out.turn T)
  clear T K0 c0 c1
  have c0 := J0.out.c0
  have c1 := J0.out.c1
  go_wp2_with fail
  refine (push_at wa v q04).mono ?_
  rintro e wb ⟨g, rfl, hP, hg, K⟩
  have I0 : Ks w p q w1.heap.size g 0 4 wb sk0 (newP 0 4 v) := by
    have l1 := J0.out.mem.lt
    have l2 := lt_of_block J0.out.ring
    have l3 := J0.out.bel.size
    exact ⟨J0.out.below K, hP, by omega, by omega, by omega, by omega⟩
  have HI := hid I0
  clear I0 hP hg K J0 c0 c1
  generalize w1.heap.size = r at *
  go_wp2
  go_loopw [9] (fun i wr => ∃ k : Nat, k ≤ m ∧ i = .int .i64 k ∧ Ks w p q r g 0 4 wr (run k sk0 (newP 0 4 v)).1 (run k sk0 (newP 0 4 v)).2) (fun i _ => m - (intOf i).toNat)
  case atStart => exact ⟨0, by omega, rfl, HI.out⟩
  case round =>
    obtain ⟨k, hk, rfl, hI⟩ := hrel
    have HI := hid hI
    clear hI
    have htm := HM.out
    by_cases hlt : k < m
    · have hkl : (k : Int) < 3 + (c : Int) := by have := HMC.out; omega
      have hz := run_ok k (c := 200) (sok_of (by kernel_rfl) : SOk sk0) (newP_ok q04 V0.out V1.out) (cnt_of (by kernel_rfl))
      have HZ := hid hz
      clear hz
      go_wp2_with fail
      refine (stepP HI.out.hs HZ.out.2.1.xo HZ.out.2.2 (by unfold bnd; omega)).mono ?_
      rintro e3 w3 ⟨rfl, T⟩
      have HT := hid T
      clear T
      go_wp2
      refine ⟨⟨k + 1, by omega, by go_num, ?_⟩, by simp [intOf]; omega⟩
      rw [run_tail]
      exact HI.out.step HT.out
    · obtain rfl : k = m := by omega
      have hkl : 3 + (c : Int) ≤ (k : Int) := by have := HMC.out; omega
      have I1 : Ks w p q r g 0 4 wr (sk1 k v) (sx1 k v) := HI.out
      have H1 := hid I1
      have c0 := I1.kn.c0
      have c1 := I1.kn.c1
      clear I1 HI
      go_wp2_with fail
      refine (lawP H1.out.kn.mem O1.out.2.2 (by decide) O1.out.1 q04 (v := 7) (by decide) (by decide)).mono ?_
      rintro e w3 ⟨rfl, T⟩
      rw [Y1.out]
      have I2 : Ks w p q r g 0 4 w3 (sk2 k v) (sx1 k v) := H1.out.turn T
      have H2 := hid I2
      have c0 := I2.kn.c0
      have c1 := I2.kn.c1
      clear T I2 H1
      go_wp2_with fail
      refine (lawG H2.out.kn.mem O2.out.2 (by decide) O2.out.1 q04).mono ?_
      rintro e w4 ⟨rfl, T⟩
      rw [Y2.out]
      generalize gotV (run 10 (sk2 k v) (newG 0 4)).2 = gv
      have I3 : Ks w p q r g 0 4 w4 (sk3 k v) (sx1 k v) := H2.out.turn T
      have H3 := hid I3
      clear T I3 H2
      go_wp2_with fail
      refine (stepP H3.out.hs O1.out.2.1.xo O3.out.2 (by decide)).mono ?_
      rintro e w5 ⟨rfl, T⟩
      have I4 : Ks w p q r g 0 4 w5 (sk4 k v) (sx4 k v) := H3.out.step T
      have H4 := hid I4
      clear T I4 H3
      generalize ((pX (sk3 k v) (sx1 k v)).tn == 5) = d4
      go_wp2_with fail
      refine (stepP H4.out.hs O4.out.2.1.xo O4.out.2.2 (by decide)).mono ?_
      rintro e w6 ⟨rfl, T⟩
      have I5 : Ks w p q r g 0 4 w6 (sk5 k v) (sx5 k v) := H4.out.step T
      have H5 := hid I5
      have c0 := I5.kn.c0
      have c1 := I5.kn.c1
      clear T I5 H4
      generalize ((pX (sk4 k v) (sx4 k v)).tn == 5) = d5
      go_wp2_with fail
      refine (lawG H5.out.kn.mem O5.out.2 (by decide) O5.out.1 q04).mono ?_
      rintro e w7 ⟨rfl, T⟩
      rw [Y3.out, Y4.out]
      have I6 : Ks w p q r g 0 4 w7 (sk6 k v) (sx5 k v) := H5.out.turn T
      have H6 := hid I6
      have c0 := I6.kn.c0
      have c1 := I6.kn.c1
      clear T I6 H5
      go_wp2_with fail
      refine (lawG H6.out.kn.mem O6.out.2 (by decide) O6.out.1 q04).mono ?_
      rintro e w8 ⟨rfl, T⟩
      rw [Y5.out, Y6.out]
      have HB := hid (H6.out.kn.turn T).bel
      clear T H6
      have hvv : (v == v) = true := by simp
      go_wp2_with fail
      refine (known_yes _).mono ?_
      rintro e w9 ⟨rfl, K⟩
      have HF := hid (bel_trans HB.out K)
      clear K HB
      go_wp2
      go_ret
      exact ⟨rfl, HF.out⟩
end Go.Proofs.Ytfnfbceblpaggaa
