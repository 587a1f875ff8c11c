/- The walk of DescRounds: for every owner, every other number, both kinds: it returns true; nothing that lay before is changed. Condition: the package's two tables lie in their variables. -/
import Derived.Test.YtacifhfkadnklaaDoorK
namespace Go.Proofs.YtacifhfkadnklaaDoor
open Go.RowKit

theorem rt_mk (k o r e : Int) : rt ⟨k, o, r, e⟩ = true ↔ (0 ≤ k ∧ k ≤ 5 ∧ 0 ≤ o ∧ o ≤ 16 ∧ 0 ≤ r ∧ r ≤ 65535 ∧ 0 ≤ e ∧ e ≤ 4294967295) ∧
    ((k ≤ 1 → o = 0 ∧ r = 0 ∧ e = 0) ∧ (k = 2 → o = 0 ∧ e = 0) ∧ (k = 3 ∨ k = 4 → 1 ≤ o ∧ e = 0) ∧ (k = 5 → r = 0)) := rt_iff ⟨k, o, r, e⟩
theorem rt_owned (k o : Int) (hk : k = 3 ∨ k = 4) (h : 1 ≤ o ∧ o ≤ 16) : rt ⟨k, o, 0, 0⟩ = true := by
  rw [rt_mk]
  refine ⟨by omega, fun h => ?_, fun h => ?_, fun h => ?_, fun h => ?_⟩ <;> omega
theorem rt_retired (o : Int) (h : 1 ≤ o ∧ o ≤ 16) : rt ⟨5, o, 0, 0⟩ = true := by
  rw [rt_mk]
  refine ⟨by omega, fun h => ?_, fun h => ?_, fun h => ?_, fun h => ?_⟩ <;> omega
theorem rt_zd : rt zd = true := by decide +kernel
theorem way_yes (a b : Int) (h : 0 ≤ a ∧ a ≤ 5) (g : (a = 0 ∧ 1 ≤ b ∧ b ≤ 4) ∨ (a = 1 ∧ (b = 0 ∨ 2 ≤ b ∧ b ≤ 4)) ∨ ((a = 2 ∨ a = 3) ∧ (b = 5 ∨ b = 0)) ∨ (a = 4 ∧ (b = 5 ∨ b = 0 ∨ b = 4)) ∨ (a = 5 ∧ b = 0)) : way a b = true := (way_iff a b h).2 g
theorem two_at {d : Ds} {e k o r p e' : Int} {fn : FuncId} {args : Array Value} {w : World} (h : Calls Tryd.prog fn args w fun v w' => v = .returned (two d e) ∧ Below w.heap.size w w') (hd : d = ⟨k, o, r, p⟩) (he : e = e') :
    Calls Tryd.prog fn args w fun v w' => v = .returned (.tuple #[.agg #[.int .i64 k, .int .i64 o, .int .i64 r, .int .i64 p], .int .i64 e']) ∧ Below w.heap.size w w' := by
  subst hd he; exact h
theorem r1 (k o : Int) (hk : k = 3 ∨ k = 4) (h : 1 ≤ o ∧ o ≤ 16) : nxE zd k o = 0 ∧ nx zd k o = ⟨k, o, 0, 0⟩ := by
  have hn : nxD zd k o = ⟨k, o, 0, 0⟩ := by unfold nxD; rw [if_neg (by omega)]
  have e : nxE zd k o = 0 := by
    unfold nxE
    rw [if_pos rt_zd, if_pos (show zd.r = 0 from rfl), if_pos (show way zd.k k = true from way_yes 0 k (by omega) (by omega)), hn, if_pos (rt_owned k o hk h)]
  exact ⟨e, by unfold nx; rw [if_pos e, hn]⟩
theorem r2 (k o x : Int) (hk : k = 3 ∨ k = 4) (h : 1 ≤ o ∧ o ≤ 16) : nxE ⟨k, o, 0, 0⟩ 5 x = 0 ∧ nx ⟨k, o, 0, 0⟩ 5 x = ⟨5, o, 0, 0⟩ := by
  have hn : nxD ⟨k, o, 0, 0⟩ 5 x = ⟨5, o, 0, 0⟩ := by unfold nxD; rw [if_pos rfl]
  have e : nxE ⟨k, o, 0, 0⟩ 5 x = 0 := by
    unfold nxE
    rw [if_pos (rt_owned k o hk h), if_pos rfl, if_pos (way_yes k 5 (by omega) (by omega)), hn, if_pos (rt_retired o h)]
  exact ⟨e, by unfold nx; rw [if_pos e, hn]⟩
theorem r3 (o : Int) (h : 1 ≤ o ∧ o ≤ 16) : nxE ⟨5, o, 0, 0⟩ 0 0 = 0 ∧ nx ⟨5, o, 0, 0⟩ 0 0 = ⟨0, 0, 0, 0⟩ := by
  have hn : nxD ⟨5, o, 0, 0⟩ 0 0 = zd := by unfold nxD; rw [if_neg (by omega)]; rfl
  have e : nxE ⟨5, o, 0, 0⟩ 0 0 = 0 := by
    unfold nxE
    rw [if_pos (rt_retired o h), if_pos rfl, if_pos (way_yes 5 0 (by omega) (by omega)), hn, if_pos rt_zd]
  exact ⟨e, by unfold nx; rw [if_pos e, hn]; rfl⟩
theorem r4 (k o : Int) (hk : k = 3 ∨ k = 4) (h : 1 ≤ o ∧ o ≤ 16) : nxE ⟨5, o, 0, 0⟩ k o = 6 ∧ nx ⟨5, o, 0, 0⟩ k o = ⟨0, 0, 0, 0⟩ := by
  have hw : way 5 k = false := by
    rw [← Bool.not_eq_true, way_iff 5 k (by omega)]; omega
  have e : nxE ⟨5, o, 0, 0⟩ k o = 6 := by
    unfold nxE
    rw [if_pos (rt_retired o h), if_pos rfl, if_neg (by rw [hw]; decide)]
  exact ⟨e, by unfold nx; rw [if_neg (by omega)]; rfl⟩

set_option maxRecDepth 100000 in
set_option maxHeartbeats 1000000 in
theorem rounds_walk (owner other : Int) (g : Bool) (h0 : 0 ≤ owner) (h1 : owner ≤ 255) (w : World) (hT : Tab w) :
    Calls Tryd.prog 7 #[.int .u8 owner, .int .i64 other, .bool g] w fun v w' => v = .returned (.bool true) ∧ Below w.heap.size w w' := by
  have HT0 := hid hT
  have q : 0 ≤ owner % 16 ∧ owner % 16 < 16 := ⟨Int.emod_nonneg _ (by decide), Int.emod_lt_of_pos _ (by decide)⟩
  clear hT
  cases g
  · go_enter Tryd.func7, Tryd.ntmps7
    go_wp2_with fail
    have q2 : 1 ≤ 1 + owner % 16 ∧ 1 + owner % 16 ≤ 16 := by omega
    clear q
    generalize 1 + owner % 16 = o at q2 ⊢
    have Q := hid q2
    have te : (o == o) = true := by simp
    clear q2
    refine (two_at (next_at zd 3 o _ HT0.out) (r1 3 o (by decide) Q.out).2 (r1 3 o (by decide) Q.out).1).mono ?_
    rintro v w1 ⟨rfl, hB⟩
    have HB := hid (hB)
    have HT := hid (HT0.out.go HB.out)
    clear hB
    (try simp only [])
    go_wp2_with fail
    refine (two_at (next_at ⟨3, o, 0, 0⟩ 5 other _ (HT.out.alloc _)) (r2 3 o other (by decide) Q.out).2 (r2 3 o other (by decide) Q.out).1).mono ?_
    rintro v w2 ⟨rfl, hB⟩
    have a9 := stay hB (heap_alloc_new _ _)
    have HBn := hid (bgo (HB.out.alloc HB.out.size _) hB)
    clear HB
    have HB := HBn
    clear HBn
    clear HT
    have HT := hid (HT0.out.go HB.out)
    clear hB
    have l9 := lt_of_block a9
    obtain ⟨p90, p91, p92, p93, -, -, -, -⟩ := four a9
    have A9 := hid a9
    clear a9
    (try simp only [])
    go_wp2_with fail
    refine (two_at (next_at ⟨5, o, 0, 0⟩ 0 0 _ (HT.out.alloc _)) (r3 o Q.out).2 (r3 o Q.out).1).mono ?_
    rintro v w3 ⟨rfl, hB⟩
    have a9 := stay hB (hkeep A9.out _)
    have a11 := stay hB (heap_alloc_new _ _)
    have HBn := hid (bgo (HB.out.alloc HB.out.size _) hB)
    clear HB
    have HB := HBn
    clear HBn
    clear A9 l9 p90 p91 p92 p93
    clear HT
    have HT := hid (HT0.out.go HB.out)
    clear hB
    have l9 := lt_of_block a9
    obtain ⟨p90, p91, p92, p93, -, -, -, -⟩ := four a9
    have A9 := hid a9
    clear a9
    have l11 := lt_of_block a11
    obtain ⟨p110, p111, p112, p113, -, -, -, -⟩ := four a11
    have A11 := hid a11
    clear a11
    (try simp only [])
    go_wp2_with fail
    refine (two_at (next_at ⟨5, o, 0, 0⟩ 3 o _ (HT.out.alloc _)) (r4 3 o (by decide) Q.out).2 (r4 3 o (by decide) Q.out).1).mono ?_
    rintro v w4 ⟨rfl, hB⟩
    have a9 := stay hB (hkeep A9.out _)
    have a11 := stay hB (hkeep A11.out _)
    have a13 := stay hB (heap_alloc_new _ _)
    have HBn := hid (bgo (HB.out.alloc HB.out.size _) hB)
    clear HB
    have HB := HBn
    clear HBn
    clear A9 l9 p90 p91 p92 p93 A11 l11 p110 p111 p112 p113
    clear HT
    have HT := hid (HT0.out.go HB.out)
    clear hB
    have l9 := lt_of_block a9
    obtain ⟨p90, p91, p92, p93, -, -, -, -⟩ := four a9
    have A9 := hid a9
    clear a9
    have l11 := lt_of_block a11
    obtain ⟨p110, p111, p112, p113, -, -, -, -⟩ := four a11
    have A11 := hid a11
    clear a11
    have l13 := lt_of_block a13
    obtain ⟨p130, p131, p132, p133, -, -, -, -⟩ := four a13
    have A13 := hid a13
    clear a13
    (try simp only [])
    go_wp2_with fail
    refine (known_yes _ (HT.out.alloc _)).mono ?_
    rintro v w5 ⟨rfl, hB⟩
    have a9 := stay hB (hkeep A9.out _)
    have a11 := stay hB (hkeep A11.out _)
    have a13 := stay hB (hkeep A13.out _)
    have a15 := stay hB (heap_alloc_new _ _)
    have HBn := hid (bgo (HB.out.alloc HB.out.size _) hB)
    clear HB
    have HB := HBn
    clear HBn
    clear A9 l9 p90 p91 p92 p93 A11 l11 p110 p111 p112 p113 A13 l13 p130 p131 p132 p133
    clear HT
    have HT := hid (HT0.out.go HB.out)
    clear hB
    have l9 := lt_of_block a9
    obtain ⟨p90, p91, p92, p93, -, -, -, -⟩ := four a9
    have A9 := hid a9
    clear a9
    have l11 := lt_of_block a11
    obtain ⟨p110, p111, p112, p113, -, -, -, -⟩ := four a11
    have A11 := hid a11
    clear a11
    have l13 := lt_of_block a13
    obtain ⟨p130, p131, p132, p133, -, -, -, -⟩ := four a13
    have A13 := hid a13
    clear a13
    have l15 := lt_of_block a15
    obtain ⟨p150, p151, p152, p153, -, -, -, -⟩ := four a15
    have A15 := hid a15
    clear a15
    (try simp only [])
    go_wp2
    go_ret
    exact ⟨rfl, HB.out⟩
  · go_enter Tryd.func7, Tryd.ntmps7
    go_wp2_with fail
    have q2 : 1 ≤ 1 + owner % 16 ∧ 1 + owner % 16 ≤ 16 := by omega
    clear q
    generalize 1 + owner % 16 = o at q2 ⊢
    have Q := hid q2
    have te : (o == o) = true := by simp
    clear q2
    refine (two_at (next_at zd 4 o _ HT0.out) (r1 4 o (by decide) Q.out).2 (r1 4 o (by decide) Q.out).1).mono ?_
    rintro v w1 ⟨rfl, hB⟩
    have HB := hid (hB)
    have HT := hid (HT0.out.go HB.out)
    clear hB
    (try simp only [])
    go_wp2_with fail
    refine (two_at (next_at ⟨4, o, 0, 0⟩ 5 other _ (HT.out.alloc _)) (r2 4 o other (by decide) Q.out).2 (r2 4 o other (by decide) Q.out).1).mono ?_
    rintro v w2 ⟨rfl, hB⟩
    have a9 := stay hB (heap_alloc_new _ _)
    have HBn := hid (bgo (HB.out.alloc HB.out.size _) hB)
    clear HB
    have HB := HBn
    clear HBn
    clear HT
    have HT := hid (HT0.out.go HB.out)
    clear hB
    have l9 := lt_of_block a9
    obtain ⟨p90, p91, p92, p93, -, -, -, -⟩ := four a9
    have A9 := hid a9
    clear a9
    (try simp only [])
    go_wp2_with fail
    refine (two_at (next_at ⟨5, o, 0, 0⟩ 0 0 _ (HT.out.alloc _)) (r3 o Q.out).2 (r3 o Q.out).1).mono ?_
    rintro v w3 ⟨rfl, hB⟩
    have a9 := stay hB (hkeep A9.out _)
    have a11 := stay hB (heap_alloc_new _ _)
    have HBn := hid (bgo (HB.out.alloc HB.out.size _) hB)
    clear HB
    have HB := HBn
    clear HBn
    clear A9 l9 p90 p91 p92 p93
    clear HT
    have HT := hid (HT0.out.go HB.out)
    clear hB
    have l9 := lt_of_block a9
    obtain ⟨p90, p91, p92, p93, -, -, -, -⟩ := four a9
    have A9 := hid a9
    clear a9
    have l11 := lt_of_block a11
    obtain ⟨p110, p111, p112, p113, -, -, -, -⟩ := four a11
    have A11 := hid a11
    clear a11
    (try simp only [])
    go_wp2_with fail
    refine (two_at (next_at ⟨5, o, 0, 0⟩ 4 o _ (HT.out.alloc _)) (r4 4 o (by decide) Q.out).2 (r4 4 o (by decide) Q.out).1).mono ?_
    rintro v w4 ⟨rfl, hB⟩
    have a9 := stay hB (hkeep A9.out _)
    have a11 := stay hB (hkeep A11.out _)
    have a13 := stay hB (heap_alloc_new _ _)
    have HBn := hid (bgo (HB.out.alloc HB.out.size _) hB)
    clear HB
    have HB := HBn
    clear HBn
    clear A9 l9 p90 p91 p92 p93 A11 l11 p110 p111 p112 p113
    clear HT
    have HT := hid (HT0.out.go HB.out)
    clear hB
    have l9 := lt_of_block a9
    obtain ⟨p90, p91, p92, p93, -, -, -, -⟩ := four a9
    have A9 := hid a9
    clear a9
    have l11 := lt_of_block a11
    obtain ⟨p110, p111, p112, p113, -, -, -, -⟩ := four a11
    have A11 := hid a11
    clear a11
    have l13 := lt_of_block a13
    obtain ⟨p130, p131, p132, p133, -, -, -, -⟩ := four a13
    have A13 := hid a13
    clear a13
    (try simp only [])
    go_wp2_with fail
    refine (known_yes _ (HT.out.alloc _)).mono ?_
    rintro v w5 ⟨rfl, hB⟩
    have a9 := stay hB (hkeep A9.out _)
    have a11 := stay hB (hkeep A11.out _)
    have a13 := stay hB (hkeep A13.out _)
    have a15 := stay hB (heap_alloc_new _ _)
    have HBn := hid (bgo (HB.out.alloc HB.out.size _) hB)
    clear HB
    have HB := HBn
    clear HBn
    clear A9 l9 p90 p91 p92 p93 A11 l11 p110 p111 p112 p113 A13 l13 p130 p131 p132 p133
    clear HT
    have HT := hid (HT0.out.go HB.out)
    clear hB
    have l9 := lt_of_block a9
    obtain ⟨p90, p91, p92, p93, -, -, -, -⟩ := four a9
    have A9 := hid a9
    clear a9
    have l11 := lt_of_block a11
    obtain ⟨p110, p111, p112, p113, -, -, -, -⟩ := four a11
    have A11 := hid a11
    clear a11
    have l13 := lt_of_block a13
    obtain ⟨p130, p131, p132, p133, -, -, -, -⟩ := four a13
    have A13 := hid a13
    clear a13
    have l15 := lt_of_block a15
    obtain ⟨p150, p151, p152, p153, -, -, -, -⟩ := four a15
    have A15 := hid a15
    clear a15
    (try simp only [])
    go_wp2
    go_ret
    exact ⟨rfl, HB.out⟩
end Go.Proofs.YtacifhfkadnklaaDoor
