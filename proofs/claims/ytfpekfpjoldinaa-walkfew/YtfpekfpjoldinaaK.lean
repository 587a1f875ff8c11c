/- The fixed calls that every statement of this seat ends with return true. No conditions. -/
import Derived.Test.YtfpekfpjoldinaaS7
import Derived.Test.YtfpekfpjoldinaaB
namespace Go.Proofs.Ytfpekfpjoldinaa
open Go.RowKit

/-- The program's memory, and that all this is new. -/
structure Kn (w0 w : World) (p b : Nat) (xs : List Int) (k : Nat) : Prop where
  bel : Below w0.heap.size w0 w
  p0 : w0.heap.size ≤ p
  b0 : w0.heap.size ≤ b
  mem : ∃ s, Mem 76 w p b s ∧ s.xs = xs ∧ Cnt s k
theorem Kn.lt {w0 w : World} {p b : Nat} {xs : List Int} {k : Nat} (h : Kn w0 w p b xs k) : p < w.heap.size ∧ b < w.heap.size := by
  obtain ⟨s, m, -, -⟩ := h.mem
  exact m.lt
theorem Kn.below {w0 w w' : World} {p b : Nat} {xs : List Int} {k : Nat} (h : Kn w0 w p b xs k) (d : Below w.heap.size w w') : Kn w0 w' p b xs k := by
  obtain ⟨s, m, a, c⟩ := h.mem
  exact ⟨bel_trans h.bel d, h.p0, h.b0, s, m.below d, a, c⟩
theorem all_k {w0 w : World} {p b : Nat} {xs : List Int} {k : Nat} (h : Kn w0 w p b xs k) (hk : k + 4 ≤ bnd) (u : U64 xs) (root pg wt : Int) (l1 : -9223372036854775808 ≤ wt) (l2 : wt ≤ 9223372036854775807) {d : Fd} (hd : fAll xs root pg wt = d) :
    Calls Try.prog 10 #[.pointer (some ⟨p, 0, none⟩), .int .i64 root, .int .i64 pg, .int .i64 wt] w fun e w' => e = .returned (fdV d) ∧ Kn w0 w' p b xs (k + 4) ∧ But p b w w' := by
  obtain ⟨s, m, rfl, c⟩ := h.mem
  subst hd
  refine (all_at m c hk u root pg wt l1 l2).mono fun e w' ⟨a, ⟨s', m', d'⟩, f⟩ => ⟨a, ⟨h.bel.trans (f.below h.bel.size h.p0 h.b0), h.p0, h.b0, s', m', d'.xs, d'.cnt c⟩, f⟩
theorem Kn.of_bo {w0 wa w : World} {p b q c : Nat} {s t : St} {k : Nat} (h : Bo wa w p b q c s t) (d : Below w0.heap.size w0 wa) (n : Cnt s k) : Kn w0 w p b s.xs k :=
  ⟨d.trans (h.bel.mono d.size), Nat.le_trans d.size h.p0, Nat.le_trans d.size h.b0, s, h.pm, rfl, n⟩
/-- A block stays, where a memory alone was changed. -/
theorem But.stay {p b g : Nat} {w w' : World} {o : Obj} (h : But p b w w') (a : w.heap[g]? = some o) (h1 : g ≠ p) (h2 : g ≠ b) : w'.heap[g]? = some o := (h.block g (lt_of_block a) h1 h2).trans a

def kL : List (Int × Int) := [(1, 4097), (18, 8193), (35, 12289), (52, 36871)]
def kX : List Int := (bothS kL).xs
def itW : Nat → Wk
  | 0 => newW 0 4660 2
  | k + 1 => stepW kX (itW k)
theorem it1 : (itW (0 + 1)).st = 1 := by decide +kernel
theorem it2 : (itW (1 + 1)).st = 1 := by decide +kernel
theorem it3 : (itW (2 + 1)).st = 1 := by decide +kernel
theorem it4 : (itW (3 + 1)).st = 2 := by decide +kernel
theorem it_succ (k : Nat) : stepW kX (itW k) = itW (k + 1) := rfl
theorem it_lt (k : Nat) (h : k < 3) : (itW (k + 1)).st = 1 := by
  obtain rfl | rfl | rfl : k = 0 ∨ k = 1 ∨ k = 2 := by omega
  · exact it1
  · exact it2
  · exact it3
theorem kV : V64 kL := fun i => by
  match i with
  | 0 => exact ⟨by decide, by decide⟩
  | 1 => exact ⟨by decide, by decide⟩
  | 2 => exact ⟨by decide, by decide⟩
  | 3 => exact ⟨by decide, by decide⟩
  | _ + 4 => exact ⟨Int.le_refl _, show (0 : Int) < 18446744073709551616 by decide⟩
def fdEq (a b : Fd) : Bool := a.f == b.f && a.r == b.r && a.v == b.v && a.e == b.e
theorem fd_of {a b : Fd} (h : fdEq a b = true) : a = b := by
  obtain ⟨a1, a2, a3, a4⟩ := a
  obtain ⟨b1, b2, b3, b4⟩ := b
  simp only [fdEq, Bool.and_eq_true, beq_iff_eq] at h
  obtain ⟨⟨⟨h1, h2⟩, h3⟩, h4⟩ := h
  subst h1 h2 h3 h4
  rfl
theorem kR : runF kX 4660 2 3 0 = ⟨9, 3, 0, 0⟩ := fd_of (by decide +kernel)
theorem kP : pathF kX 4660 2 3 0 = [0, 1, 2, 3] := by decide +kernel
theorem kA : fAll kX 0 4660 4 = ⟨9, 3, 0, 7⟩ := fd_of (by decide +kernel)
theorem kB : fAll kX 0 4661 0 = ⟨0, 0, 0, 4⟩ := fd_of (by decide +kernel)
theorem kC' : fAll kX (-1) 0 0 = ⟨0, 0, 0, 1⟩ := fd_of (by decide +kernel)
theorem kWi : ∀ k, k ≤ 3 → Wi kX ⟨9, 3, 0, 0⟩ [0, 1, 2, 3] (itW k)
  | 0 => fun _ => by
    have := Wi.new (xs := kX) (root := 0) (pg := 4660) (wt := 2) (by decide)
    rw [kR, kP] at this
    exact this
  | k + 1 => fun h => by
    rcases (kWi k (by omega)).step with a | a
    · exact a.1
    · have e := it_lt k (by omega)
      have := a.st
      rw [show stepW kX (itW k) = itW (k + 1) from rfl, e] at this
      cases this
theorem kWd' (k : Nat) (hk : k ≤ 3) (h : (itW (k + 1)).st = 2) : Wd ⟨9, 3, 0, 0⟩ [0, 1, 2, 3] (itW (k + 1)) := by
  rcases (kWi k hk).step with a | a
  · have := a.1.st
    rw [it_succ, h] at this
    cases this
  · exact a
theorem kWd : Wd ⟨9, 3, 0, 0⟩ [0, 1, 2, 3] (itW (3 + 1)) := by
  exact kWd' 3 (Nat.le_refl _) it4
theorem k_words (w : World) : Wl (w.alloc (.cells #[.int .i64 1, .int .u64 4097, .int .i64 18, .int .u64 8193, .int .i64 35, .int .u64 12289, .int .i64 52, .int .u64 36871] 40)) (.slice (some ⟨w.heap.size, 0, none⟩) 4 4) kL := by
  have h := heap_alloc_new w (.cells #[.int .i64 1, .int .u64 4097, .int .i64 18, .int .u64 8193, .int .i64 35, .int .u64 12289, .int .i64 52, .int .u64 36871] 40 (0, 0))
  refine ⟨by unfold maxLen; decide, _, 4, rfl, fun _ => ⟨_, 0, rfl, by simp, fun i hi => ?_⟩⟩
  match i, hi with
  | 0, _ => exact ⟨cell_of h rfl, cell_of h rfl⟩
  | 1, _ => exact ⟨cell_of h rfl, cell_of h rfl⟩
  | 2, _ => exact ⟨cell_of h rfl, cell_of h rfl⟩
  | 3, _ => exact ⟨cell_of h rfl, cell_of h rfl⟩

theorem k_st (k : Nat) (h : k < 3) : ((itW (k + 1)).st == 2) = false := by
  rw [it_lt k h]; rfl
theorem result_k {w : World} {g : Nat} {x : Wk} {r : Fd} {l : List Int} (h : IsWk w g x) (d : Wd r l x) : Calls Try.prog 16 #[.pointer (some ⟨g, 0, none⟩)] w fun e w' => e = .returned (ftwo r true) ∧ Below w.heap.size w w' :=
  (result_at h (.inr d.st)).mono fun e w' ⟨a, b⟩ => ⟨a.trans (by rw [d.fd, d.st]; rfl), b⟩
theorem Wd.len {x : Wk} {r : Fd} {l : List Int} (d : Wd r l x) : x.ld = (l.length : Nat) := by
  have := pL_len (x := x) (by have := d.ld0; omega) d.ld1
  rw [d.path] at this
  have := d.ld0
  omega
theorem path_d {w : World} {g : Nat} {x : Wk} {r : Fd} {l : List Int} (h : IsWk w g x) (d : Wd r l x) : Calls Try.prog 17 #[.pointer (some ⟨g, 0, none⟩)] w fun e w' => e = .returned (.slice (some ⟨w.heap.size, 0, none⟩) l.length l.length) ∧ w'.heap[w.heap.size]? = some (.cells (ints l).toArray 3 (0, 0)) ∧ Below w.heap.size w w' := by
  have h4 := d.ld1
  have hl := d.len
  have := path_at h (.inr d.st) l.length hl (by omega)
  rw [d.path] at this
  exact this
theorem step_k {w0 w : World} {p b g n k : Nat} (h : Kn w0 w p b kX n) (hx : IsWk w g (itW k)) (hk : k ≤ 3) (hn : n ≤ bnd) (hp : g ≠ p) (hb : g ≠ b) (hg : w0.heap.size ≤ g) (u : U64 kX) :
    Calls Try.prog 15 #[.pointer (some ⟨g, 0, none⟩), .pointer (some ⟨p, 0, none⟩)] w fun e w' => e = .returned (.bool ((itW (k + 1)).st == 2)) ∧ IsWk w' g (itW (k + 1)) ∧ Kn w0 w' p b kX (n + 1) := by
  obtain ⟨s, m, hs, c⟩ := h.mem
  refine (step_any (s := s) (r := ⟨9, 3, 0, 0⟩) (l := [0, 1, 2, 3]) ⟨m, hx, hp, hb⟩ (by rw [hs]; exact kWi k hk) c hn (by rw [hs]; exact u)).mono ?_
  rintro e w' ⟨s', y, ⟨e1, e2⟩, h1, h2, h3, -⟩
  rw [hs, it_succ] at e2
  subst e2
  exact ⟨e1, h1.wk, h3.bel h.bel hg h.p0 h.b0, h.p0, h.b0, s', h1.mem, h2.xs.trans hs, h2.cnt c⟩

/-- A step of a walker that goes on. -/
theorem step_w {w0 w : World} {p b g n : Nat} {x : Wk} {xs : List Int} {r : Fd} {l : List Int} (h : Kn w0 w p b xs n) (hx : IsWk w g x) (i : Wi xs r l x) (hn : n ≤ bnd) (hp : g ≠ p) (hb : g ≠ b) (hg : w0.heap.size ≤ g) (u : U64 xs) :
    Calls Try.prog 15 #[.pointer (some ⟨g, 0, none⟩), .pointer (some ⟨p, 0, none⟩)] w fun e w' => e = .returned (.bool ((stepW xs x).st == 2)) ∧ IsWk w' g (stepW xs x) ∧ Kn w0 w' p b xs (n + 1) := by
  obtain ⟨s, m, rfl, c⟩ := h.mem
  refine (step_any (s := s) ⟨m, hx, hp, hb⟩ i c hn u).mono ?_
  rintro e w' ⟨s', y, ⟨e1, rfl⟩, h1, h2, h3, -⟩
  exact ⟨e1, h1.wk, h3.bel h.bel hg h.p0 h.b0, h.p0, h.b0, s', h1.mem, h2.xs, h2.cnt c⟩

set_option maxRecDepth 100000 in
set_option maxHeartbeats 2000000 in
theorem known_yes (w : World) : Calls Try.prog 12 #[] w fun e w' => e = .returned (.bool true) ∧ Below w.heap.size w w' := by
  have HU : Hid (U64 kX) := hid (bothS_u64 kV)
  go_enter Try.func12, Try.ntmps12
  go_wp2_with fail
  refine (both_at (k_words w)).mono ?_
  rintro e w1 ⟨p, b, q, c, rfl, hB⟩
  have HK : Hid (Kn w w1 p b kX 200) := hid (Kn.of_bo hB (below_alloc _ _) (bothS_cnt kL))
  clear hB
  go_wp2_with fail
  refine (wnew_at _ 0 4660 2 (by decide) (by decide) (by decide)).mono ?_
  rintro e w2 ⟨rfl, hw2⟩
  have HX : Hid (IsWk w2 w1.heap.size (itW 0)) := hid (by rw [hw2]; exact heap_alloc_new _ _)
  have HK2 : Hid (Kn w w2 p b kX 200) := hid (by rw [hw2]; exact HK.out.below (below_alloc _ _))
  have hgp : w1.heap.size ≠ p := by have := HK.out.lt; omega
  have hgb : w1.heap.size ≠ b := by have := HK.out.lt; omega
  have hg0 : Hid (w.heap.size ≤ w1.heap.size) := hid HK.out.bel.size
  clear hw2 HK
  generalize w1.heap.size = g at *
  go_wp2_with fail
  go_loopw [4] (fun i wr => ∃ k : Nat, k ≤ 3 ∧ i = .int .i64 k ∧ IsWk wr g (itW k) ∧ Kn w wr p b kX (200 + k)) (fun i _ => 9 - (intOf i).toNat)
  case atStart => exact ⟨0, Nat.zero_le _, rfl, HX.out, HK2.out⟩
  case round =>
    obtain ⟨k, hk, rfl, hX, hK⟩ := hrel
    have HS := hid (step_k hK hX hk (by unfold bnd; omega) hgp hgb hg0.out HU.out)
    have hi : (k : Int) < 9 := by omega
    have hwk : IntKind.i64.wrap ((k : Int) + 1) = (k : Int) + 1 := i64w (by omega) (by omega)
    clear hX hK
    by_cases h3 : k < 3
    · have hq := k_st k h3
      go_wp2_with fail
      refine HS.out.mono ?_
      rintro e v0 ⟨rfl, hX, hK⟩
      have HX := hid hX
      have HK := hid hK
      clear hX hK HS
      rw [hq]
      go_wp2_with fail
      go_roundw
      case rel => exact ⟨k + 1, by omega, by go_num, HX.out, HK.out⟩
      case measure => simp [intOf]; omega
    · have hk3 : k = 3 := by omega
      have hq : ((itW (k + 1)).st == 2) = true := by rw [hk3, it4]; rfl
      have hk4 : (k : Int) = 3 := by omega
      have HW : Hid (itW (k + 1) = itW (3 + 1)) := hid (by rw [hk3])
      clear h3 hk3 hwk hk
      go_wp2_with fail
      refine HS.out.mono ?_
      rintro e v0 ⟨rfl, hX, hK⟩
      have HX := hid (HW.out ▸ hX)
      have HK := hid hK
      clear hX hK HS
      rw [hq]
      have hwd := hid kWd
      obtain ⟨y, hy⟩ : ∃ y, itW (3 + 1) = y := ⟨_, rfl⟩
      rw [hy] at hwd HX
      clear hy hq HW HK2
      go_wp2_with fail
      refine (result_k HX.out hwd.out).mono ?_
      rintro e v1 ⟨rfl, hB⟩
      have HXn := hid (HX.out.below hB)
      clear HX
      have HX := HXn
      clear HXn
      have HKn := hid (HK.out.below hB)
      clear HK
      have HK := HKn
      clear HKn
      clear hB
      simp only [ftwo]
      (try simp only [])
      go_wp2_with fail
      refine (all_k (HK.out.below (below_alloc _ _)) (by unfold bnd; omega) HU.out 0 4660 4 (by decide) (by decide) kA).mono ?_
      rintro e v2 ⟨rfl, hK, hB⟩
      have nFp : v1.heap.size ≠ p := by have := HK.out.lt; omega
      have nFb : v1.heap.size ≠ b := by have := HK.out.lt; omega
      have aF := hB.stay (heap_alloc_new v1 _) nFp nFb
      have HXn := hid ((HX.out.below (below_alloc _ _)).but hB hgp hgb)
      clear HX
      have HX := HXn
      clear HXn
      have HKn := hid hK
      clear hK
      clear HK
      have HK := HKn
      clear HKn
      clear hB
      have lF := lt_of_block aF
      have dF0 := cell_of (i := 0) aF rfl
      have dF1 := cell_of (i := 1) aF rfl
      have dF2 := cell_of (i := 2) aF rfl
      have dF3 := cell_of (i := 3) aF rfl
      have AF := hid aF
      clear aF
      (try simp only [])
      go_wp2_with fail
      refine (all_k (HK.out.below (below_alloc _ _)) (by unfold bnd; omega) HU.out 0 4661 0 (by decide) (by decide) kB).mono ?_
      rintro e v3 ⟨rfl, hK, hB⟩
      have aF := hB.stay (P.hkeep AF.out _) nFp nFb
      have nGp : v2.heap.size ≠ p := by have := HK.out.lt; omega
      have nGb : v2.heap.size ≠ b := by have := HK.out.lt; omega
      have aG := hB.stay (heap_alloc_new v2 _) nGp nGb
      have HXn := hid ((HX.out.below (below_alloc _ _)).but hB hgp hgb)
      clear HX
      have HX := HXn
      clear HXn
      have HKn := hid hK
      clear hK
      clear HK
      have HK := HKn
      clear HKn
      clear AF lF dF0 dF1 dF2 dF3
      clear hB
      have lF := lt_of_block aF
      have dF0 := cell_of (i := 0) aF rfl
      have dF1 := cell_of (i := 1) aF rfl
      have dF2 := cell_of (i := 2) aF rfl
      have dF3 := cell_of (i := 3) aF rfl
      have AF := hid aF
      clear aF
      have lG := lt_of_block aG
      have dG0 := cell_of (i := 0) aG rfl
      have dG1 := cell_of (i := 1) aG rfl
      have dG2 := cell_of (i := 2) aG rfl
      have dG3 := cell_of (i := 3) aG rfl
      have AG := hid aG
      clear aG
      (try simp only [])
      go_wp2_with fail
      refine (all_k (HK.out.below (below_alloc _ _)) (by unfold bnd; omega) HU.out (-1) 0 0 (by decide) (by decide) kC').mono ?_
      rintro e v4 ⟨rfl, hK, hB⟩
      have aF := hB.stay (P.hkeep AF.out _) nFp nFb
      have aG := hB.stay (P.hkeep AG.out _) nGp nGb
      have nHp : v3.heap.size ≠ p := by have := HK.out.lt; omega
      have nHb : v3.heap.size ≠ b := by have := HK.out.lt; omega
      have aH := hB.stay (heap_alloc_new v3 _) nHp nHb
      have HXn := hid ((HX.out.below (below_alloc _ _)).but hB hgp hgb)
      clear HX
      have HX := HXn
      clear HXn
      have HKn := hid hK
      clear hK
      clear HK
      have HK := HKn
      clear HKn
      clear AF lF dF0 dF1 dF2 dF3 AG lG dG0 dG1 dG2 dG3
      clear hB
      have lF := lt_of_block aF
      have dF0 := cell_of (i := 0) aF rfl
      have dF1 := cell_of (i := 1) aF rfl
      have dF2 := cell_of (i := 2) aF rfl
      have dF3 := cell_of (i := 3) aF rfl
      have AF := hid aF
      clear aF
      have lG := lt_of_block aG
      have dG0 := cell_of (i := 0) aG rfl
      have dG1 := cell_of (i := 1) aG rfl
      have dG2 := cell_of (i := 2) aG rfl
      have dG3 := cell_of (i := 3) aG rfl
      have AG := hid aG
      clear aG
      have lH := lt_of_block aH
      have dH0 := cell_of (i := 0) aH rfl
      have dH1 := cell_of (i := 1) aH rfl
      have dH2 := cell_of (i := 2) aH rfl
      have dH3 := cell_of (i := 3) aH rfl
      have AH := hid aH
      clear aH
      (try simp only [])
      go_wp2_with fail
      refine (path_d (HX.out.below (below_alloc _ _)) hwd.out).mono ?_
      rintro e v5 ⟨rfl, hP, hB⟩
      have aF := P.stay hB (P.hkeep AF.out _)
      have aG := P.stay hB (P.hkeep AG.out _)
      have aH := P.stay hB (P.hkeep AH.out _)
      have nIp : v4.heap.size ≠ p := by have := HK.out.lt; omega
      have nIb : v4.heap.size ≠ b := by have := HK.out.lt; omega
      have aI := P.stay hB (heap_alloc_new v4 _)
      have aPA := hP
      have HXn := hid ((HX.out.below (below_alloc _ _)).below hB)
      clear HX
      have HX := HXn
      clear HXn
      have HKn := hid ((HK.out.below (below_alloc _ _)).below hB)
      clear HK
      have HK := HKn
      clear HKn
      clear AF lF dF0 dF1 dF2 dF3 AG lG dG0 dG1 dG2 dG3 AH lH dH0 dH1 dH2 dH3
      clear hB
      have lF := lt_of_block aF
      have dF0 := cell_of (i := 0) aF rfl
      have dF1 := cell_of (i := 1) aF rfl
      have dF2 := cell_of (i := 2) aF rfl
      have dF3 := cell_of (i := 3) aF rfl
      have AF := hid aF
      clear aF
      have lG := lt_of_block aG
      have dG0 := cell_of (i := 0) aG rfl
      have dG1 := cell_of (i := 1) aG rfl
      have dG2 := cell_of (i := 2) aG rfl
      have dG3 := cell_of (i := 3) aG rfl
      have AG := hid aG
      clear aG
      have lH := lt_of_block aH
      have dH0 := cell_of (i := 0) aH rfl
      have dH1 := cell_of (i := 1) aH rfl
      have dH2 := cell_of (i := 2) aH rfl
      have dH3 := cell_of (i := 3) aH rfl
      have AH := hid aH
      clear aH
      have lI := lt_of_block aI
      have dI0 := cell_of (i := 0) aI rfl
      have dI1 := cell_of (i := 1) aI rfl
      have dI2 := cell_of (i := 2) aI rfl
      have dI3 := cell_of (i := 3) aI rfl
      have AI := hid aI
      clear aI
      rw [World.size_alloc] at aPA
      rw [World.size_alloc]
      have HPA := hid aPA
      clear aPA hP
      (try simp only [])
      go_wp2_with fail
      refine (same_any (Lies.of_row (P.hkeep HPA.out _) rfl (by decide)) (Lies.of_row (xs := [0, 1, 2, 3]) (heap_alloc_new _ _) rfl (by decide))).mono ?_
      rintro e v6 ⟨rfl, hB⟩
      have aF := P.stay hB (P.hkeep AF.out _)
      have aG := P.stay hB (P.hkeep AG.out _)
      have aH := P.stay hB (P.hkeep AH.out _)
      have aI := P.stay hB (P.hkeep AI.out _)
      have HXn := hid ((HX.out.below (below_alloc _ _)).below hB)
      clear HX
      have HX := HXn
      clear HXn
      have HKn := hid ((HK.out.below (below_alloc _ _)).below hB)
      clear HK
      have HK := HKn
      clear HKn
      clear AF lF dF0 dF1 dF2 dF3 AG lG dG0 dG1 dG2 dG3 AH lH dH0 dH1 dH2 dH3 AI lI dI0 dI1 dI2 dI3
      clear hB
      have lF := lt_of_block aF
      have dF0 := cell_of (i := 0) aF rfl
      have dF1 := cell_of (i := 1) aF rfl
      have dF2 := cell_of (i := 2) aF rfl
      have dF3 := cell_of (i := 3) aF rfl
      have AF := hid aF
      clear aF
      have lG := lt_of_block aG
      have dG0 := cell_of (i := 0) aG rfl
      have dG1 := cell_of (i := 1) aG rfl
      have dG2 := cell_of (i := 2) aG rfl
      have dG3 := cell_of (i := 3) aG rfl
      have AG := hid aG
      clear aG
      have lH := lt_of_block aH
      have dH0 := cell_of (i := 0) aH rfl
      have dH1 := cell_of (i := 1) aH rfl
      have dH2 := cell_of (i := 2) aH rfl
      have dH3 := cell_of (i := 3) aH rfl
      have AH := hid aH
      clear aH
      have lI := lt_of_block aI
      have dI0 := cell_of (i := 0) aI rfl
      have dI1 := cell_of (i := 1) aI rfl
      have dI2 := cell_of (i := 2) aI rfl
      have dI3 := cell_of (i := 3) aI rfl
      have AI := hid aI
      clear aI
      (try simp only [])
      go_wp2_with fail
      refine (wnew_no _ 4096 0 0 (by decide) (by decide) (by decide)).mono ?_
      rintro e u1 ⟨rfl, hw⟩
      rw [hw]
      clear hw u1
      go_wp2_with fail
      refine (next_done HX.out hwd.out.st).mono ?_
      rintro e u2 ⟨rfl, hB⟩
      have HKn := hid (HK.out.below hB)
      clear hB
      go_wp2
      go_ret
      exact ⟨rfl, HKn.out.bel⟩

end Go.Proofs.Ytfpekfpjoldinaa
