/- The walk of WalkRights: for every words, every page and every number it returns true; nothing that lay before is changed. No conditions but the numbers' sizes. -/
import Derived.Test.YtfpekfpjoldinaaK
namespace Go.Proofs.Ytfpekfpjoldinaa
open Go.RowKit

theorem fAll_wn {xs : List Int} {g k : Int} (g0 : 0 ≤ g) (g1 : g ≤ 65535) (h0 : 0 ≤ k) (h1 : k ≤ 7) : Wn k (fAll xs 0 g 0) (fAll xs 0 g k) := by
  have e : ∀ wt, 0 ≤ wt → wt ≤ 7 → okW 0 g wt = true := fun wt a b => by
    unfold okW
    rw [P.btw_t (by decide) (by decide), P.btw_t g0 g1, P.btw_t a b]
    rfl
  unfold fAll
  rw [if_pos (e 0 (by decide) (by decide)), if_pos (e k h0 h1)]
  exact runF_wn h0 h1 3 0

set_option maxRecDepth 100000 in
set_option maxHeartbeats 2000000 in
theorem rights_bad {w : World} {v : Value} {l : List (Int × Int)} (h : Wl w v l) (hv : V64 l) (g k a : Nat) (e2 : IntKind.i64.wrap (g : Int) = g) (e3 : IntKind.i64.wrap (k : Int) = k) (e5 : (k : Int).tmod 8 = a) (e7 : IntKind.i64.wrap (a : Int) = a) (la : a ≤ 7) (ff fr fv fe : Int)
    (hf : fAll (bothS l).xs 0 g 0 = ⟨ff, fr, fv, fe⟩) (hg : fAll (bothS l).xs 0 g a = ⟨ff, fr, fv, fe⟩) (hz : (fe != 0) = true) : Calls Try.prog 5 #[v, .int .u16 g, .int .u8 k] w fun e w' => e = .returned (.bool true) ∧ Below w.heap.size w w' := by
    have HV := hid (both_at h)
    have HF := hid hf
    have HG := hid hg
    have HU : Hid (U64 (bothS l).xs) := hid (bothS_u64 hv)
    clear h hv hf hg
    go_enter Try.func5, Try.ntmps5
    go_wp2_with fail
    refine HV.out.mono ?_
    rintro e w1 ⟨p, b, q, c, rfl, hB⟩
    have HK := hid (Kn.of_bo hB (Below.refl _ _) (bothS_cnt l))
    clear hB HV
    go_wp2_with fail
    refine (all_k HK.out (by unfold bnd; omega) HU.out 0 g 0 (by decide) (by decide) HF.out).mono ?_
    rintro e v1 ⟨rfl, hK, hB⟩
    have HKn := hid hK
    clear hK
    clear HK
    have HK := HKn
    clear HKn
    clear hB
    (try simp only [])
    go_wp2_with fail
    refine (all_k (HK.out.below (below_alloc _ _)) (by unfold bnd; omega) HU.out 0 g a (by omega) (by omega) HG.out).mono ?_
    rintro e v2 ⟨rfl, hK, hB⟩
    have nFp : v1.heap.size ≠ p := by have := HK.out.lt; omega
    have nFb : v1.heap.size ≠ b := by have := HK.out.lt; omega
    have aF := hB.stay (heap_alloc_new v1 _) nFp nFb
    have HKn := hid hK
    clear hK
    clear HK
    have HK := HKn
    clear HKn
    clear hB
    have lF := lt_of_block aF
    have dF0 := cell_of (i := 0) aF rfl
    have dF1 := cell_of (i := 1) aF rfl
    have dF2 := cell_of (i := 2) aF rfl
    have dF3 := cell_of (i := 3) aF rfl
    have AF := hid aF
    clear aF
    (try simp only [])
    go_wp2_with fail
    refine (known_yes _).mono ?_
    rintro e v3 ⟨rfl, hB⟩
    have aF := P.stay hB (P.hkeep AF.out _)
    have nGp : v2.heap.size ≠ p := by have := HK.out.lt; omega
    have nGb : v2.heap.size ≠ b := by have := HK.out.lt; omega
    have aG := P.stay hB (heap_alloc_new v2 _)
    have HKn := hid ((HK.out.below (below_alloc _ _)).below hB)
    clear HK
    have HK := HKn
    clear HKn
    clear AF lF dF0 dF1 dF2 dF3
    clear hB
    have lF := lt_of_block aF
    have dF0 := cell_of (i := 0) aF rfl
    have dF1 := cell_of (i := 1) aF rfl
    have dF2 := cell_of (i := 2) aF rfl
    have dF3 := cell_of (i := 3) aF rfl
    have AF := hid aF
    clear aF
    have lG := lt_of_block aG
    have dG0 := cell_of (i := 0) aG rfl
    have dG1 := cell_of (i := 1) aG rfl
    have dG2 := cell_of (i := 2) aG rfl
    have dG3 := cell_of (i := 3) aG rfl
    have AG := hid aG
    clear aG
    (try simp only [])
    go_wp2
    go_ret
    exact ⟨rfl, HK.out.bel⟩

set_option maxRecDepth 100000 in
set_option maxHeartbeats 2000000 in
theorem rights_ok {w : World} {v : Value} {l : List (Int × Int)} (h : Wl w v l) (hv : V64 l) (g k a : Nat) (e2 : IntKind.i64.wrap (g : Int) = g) (e3 : IntKind.i64.wrap (k : Int) = k) (e5 : (k : Int).tmod 8 = a) (e7 : IntKind.i64.wrap (a : Int) = a) (la : a ≤ 7) (ff fr fv ge : Int)
    (hf : fAll (bothS l).xs 0 g 0 = ⟨ff, fr, fv, 0⟩) (hg : fAll (bothS l).xs 0 g a = ⟨ff, fr, fv, ge⟩) (c : Bool) (hc : (bits .and .i64 fr a == (a : Int)) = c) (hx : ge = 0 ∧ c = true ∨ ge = 7 ∧ c = false) (hr : 0 < fr) : Calls Try.prog 5 #[v, .int .u16 g, .int .u8 k] w fun e w' => e = .returned (.bool true) ∧ Below w.heap.size w w' := by
  rcases hx with ⟨rfl, rfl⟩ | ⟨rfl, rfl⟩
  all_goals
    have HV := hid (both_at h)
    have HF := hid hf
    have HG := hid hg
    have HU : Hid (U64 (bothS l).xs) := hid (bothS_u64 hv)
    clear h hv hf hg
    go_enter Try.func5, Try.ntmps5
    go_wp2_with fail
    refine HV.out.mono ?_
    rintro e w1 ⟨p, b, q, c, rfl, hB⟩
    have HK := hid (Kn.of_bo hB (Below.refl _ _) (bothS_cnt l))
    clear hB HV
    go_wp2_with fail
    refine (all_k HK.out (by unfold bnd; omega) HU.out 0 g 0 (by decide) (by decide) HF.out).mono ?_
    rintro e v1 ⟨rfl, hK, hB⟩
    have HKn := hid hK
    clear hK
    clear HK
    have HK := HKn
    clear HKn
    clear hB
    (try simp only [])
    go_wp2_with fail
    refine (all_k (HK.out.below (below_alloc _ _)) (by unfold bnd; omega) HU.out 0 g a (by omega) (by omega) HG.out).mono ?_
    rintro e v2 ⟨rfl, hK, hB⟩
    have nFp : v1.heap.size ≠ p := by have := HK.out.lt; omega
    have nFb : v1.heap.size ≠ b := by have := HK.out.lt; omega
    have aF := hB.stay (heap_alloc_new v1 _) nFp nFb
    have HKn := hid hK
    clear hK
    clear HK
    have HK := HKn
    clear HKn
    clear hB
    have lF := lt_of_block aF
    have dF0 := cell_of (i := 0) aF rfl
    have dF1 := cell_of (i := 1) aF rfl
    have dF2 := cell_of (i := 2) aF rfl
    have dF3 := cell_of (i := 3) aF rfl
    have AF := hid aF
    clear aF
    (try simp only [])
    go_wp2_with fail
    refine (known_yes _).mono ?_
    rintro e v3 ⟨rfl, hB⟩
    have aF := P.stay hB (P.hkeep AF.out _)
    have nGp : v2.heap.size ≠ p := by have := HK.out.lt; omega
    have nGb : v2.heap.size ≠ b := by have := HK.out.lt; omega
    have aG := P.stay hB (heap_alloc_new v2 _)
    have HKn := hid ((HK.out.below (below_alloc _ _)).below hB)
    clear HK
    have HK := HKn
    clear HKn
    clear AF lF dF0 dF1 dF2 dF3
    clear hB
    have lF := lt_of_block aF
    have dF0 := cell_of (i := 0) aF rfl
    have dF1 := cell_of (i := 1) aF rfl
    have dF2 := cell_of (i := 2) aF rfl
    have dF3 := cell_of (i := 3) aF rfl
    have AF := hid aF
    clear aF
    have lG := lt_of_block aG
    have dG0 := cell_of (i := 0) aG rfl
    have dG1 := cell_of (i := 1) aG rfl
    have dG2 := cell_of (i := 2) aG rfl
    have dG3 := cell_of (i := 3) aG rfl
    have AG := hid aG
    clear aG
    (try simp only [])
    go_wp2
    go_ret
    exact ⟨rfl, HK.out.bel⟩

theorem rights_walk {w : World} {v : Value} {l : List (Int × Int)} (h : Wl w v l) (hv : V64 l) (g k : Nat) (lg : g ≤ 65535) (lk : k ≤ 255) : Calls Try.prog 5 #[v, .int .u16 g, .int .u8 k] w fun e w' => e = .returned (.bool true) ∧ Below w.heap.size w w' := by
  have e2 : IntKind.i64.wrap (g : Int) = g := i64w (by omega) (by omega)
  have e3 : IntKind.i64.wrap (k : Int) = k := i64w (by omega) (by omega)
  obtain ⟨a, ha⟩ : ∃ a : Nat, (k : Int) % 8 = a := ⟨k % 8, by omega⟩
  have e5 : (k : Int).tmod 8 = a := by rw [Int.tmod_eq_emod_of_nonneg (by omega)]; exact ha
  have e7 : IntKind.i64.wrap (a : Int) = a := i64w (by omega) (by omega)
  have hw := fAll_wn (xs := (bothS l).xs) (g := g) (k := a) (by omega) (by omega) (by omega) (by omega)
  obtain ⟨⟨ff, fr, fv, fe⟩, hf⟩ : ∃ d, fAll (bothS l).xs 0 g 0 = d := ⟨_, rfl⟩
  obtain ⟨⟨gf, gr, gv, ge⟩, hg⟩ : ∃ d, fAll (bothS l).xs 0 g a = d := ⟨_, rfl⟩
  rw [hf, hg] at hw
  unfold Wn at hw
  by_cases hz : fe = 0
  · rw [if_pos hz] at hw
    subst hz
    obtain ⟨h1, h2, h3, h4, h5, h6⟩ := hw
    simp only at h1 h2 h3 h4 h5 h6
    subst h1 h2 h3
    refine rights_ok h hv g k a e2 e3 e5 e7 (by omega) _ _ _ ge hf hg _ rfl ?_ h6
    rcases h5 with rfl | rfl
    · exact .inl ⟨rfl, h4.symm⟩
    · exact .inr ⟨rfl, h4.symm⟩
  · rw [if_neg hz] at hw
    refine rights_bad h hv g k a e2 e3 e5 e7 (by omega) ff fr fv fe hf (hg.trans hw) ?_
    simpa using hz
end Go.Proofs.Ytfpekfpjoldinaa
