/- A step, way by way: what it leaves of the words and of who does it. Of no program; no conditions but that the lock's words are there. -/
import Derived.Test.YtkdgjgbmbdmmfaaS12
namespace Go.Proofs.Ytkdgjgbmbdmmfaa
open Go.RowKit

theorem loadT_xs (s : St) (a : Int) : (loadT s a).xs = s.xs := by unfold loadT; split <;> rfl
theorem loadV_at {s : St} {a : Int} {A : Nat} (ha : a = A) (h : A < s.xs.length) : loadV s a = s.xs.getD A 0 := by
  subst ha
  unfold loadV
  rw [if_pos (there_in (by omega) (by omega))]
  rfl
theorem storeT_xs {s : St} {a v : Int} {A : Nat} (ha : a = A) (h : A < s.xs.length) : (storeT s a v).xs = s.xs.set A v := by
  subst ha
  unfold storeT
  rw [if_pos (there_in (by omega) (by omega))]
  rfl
theorem casT_yes {s : St} {a o v : Int} {A : Nat} (ha : a = A) (h : A < s.xs.length) (hv : s.xs.getD A 0 = o) : (casT s a o v).xs = s.xs.set A v ∧ casV s a o = true := by
  subst ha
  unfold casT casV
  rw [if_pos (there_in (by omega) (by omega)), there_in (by omega) (by omega)]
  have : s.xs.getD (A : Int).toNat 0 = o := hv
  rw [if_pos this, this]
  exact ⟨rfl, by simp⟩
theorem casT_no {s : St} {a o v : Int} {A : Nat} (ha : a = A) (h : A < s.xs.length) (hv : s.xs.getD A 0 ≠ o) : (casT s a o v).xs = s.xs ∧ casV s a o = false := by
  subst ha
  unfold casT casV
  rw [if_pos (there_in (by omega) (by omega)), there_in (by omega) (by omega)]
  have : ¬ s.xs.getD (A : Int).toNat 0 = o := hv
  rw [if_neg this]
  exact ⟨rfl, by simpa using this⟩

theorem wS_0 {s : St} {x : Wr} {A : Nat} (ht : x.t = 0) (he : x.t ≠ x.e) (ha : x.ad = A) (h : A < s.xs.length) :
    (wS s x).1.xs = s.xs ∧ (wS s x).2 = { x with m := s.xs.getD A 0, t := beginT 0 (s.xs.getD A 0) } := by
  have hn : wNext x = ⟨1, x.ad, 0, 0⟩ := by unfold wNext; rw [if_neg he, if_pos ht]
  unfold wS
  rw [if_neg he, hn]
  refine ⟨loadT_xs _ _, ?_⟩
  have hd : doR s ⟨1, x.ad, 0, 0⟩ = ⟨loadV s x.ad, false, errV s x.ad⟩ := rfl
  unfold wGo
  simp only [hd, if_pos ht, loadV_at ha h]
theorem wS_1y {s : St} {x : Wr} {A : Nat} (ht : x.t = 1) (he : x.t ≠ x.e) (ha : x.ad = A) (h : A < s.xs.length) (hm : s.xs.getD A 0 = x.m) :
    (wS s x).1.xs = s.xs.set A (add64 x.m 1) ∧ (wS s x).2 = { x with t := 2 } := by
  have hn : wNext x = ⟨3, x.ad, x.m, add64 x.m 1⟩ := by unfold wNext; rw [if_neg he, if_neg (by omega), if_pos ht]
  unfold wS
  rw [if_neg he, hn]
  obtain ⟨h1, h2⟩ := casT_yes (v := add64 x.m 1) ha h hm
  refine ⟨h1, ?_⟩
  have hd : doR s ⟨3, x.ad, x.m, add64 x.m 1⟩ = ⟨0, casV s x.ad x.m, errV s x.ad⟩ := rfl
  unfold wGo
  rw [if_neg (by omega), hd, h2, if_neg (by simp)]
  simp [ht]
theorem wS_1n {s : St} {x : Wr} {A : Nat} (ht : x.t = 1) (he : x.t ≠ x.e) (ha : x.ad = A) (h : A < s.xs.length) (hm : s.xs.getD A 0 ≠ x.m) :
    (wS s x).1.xs = s.xs ∧ (wS s x).2 = { x with t := 0 } := by
  have hn : wNext x = ⟨3, x.ad, x.m, add64 x.m 1⟩ := by unfold wNext; rw [if_neg he, if_neg (by omega), if_pos ht]
  unfold wS
  rw [if_neg he, hn]
  obtain ⟨h1, h2⟩ := casT_no (v := add64 x.m 1) ha h hm
  refine ⟨h1, ?_⟩
  have hd : doR s ⟨3, x.ad, x.m, add64 x.m 1⟩ = ⟨0, casV s x.ad x.m, errV s x.ad⟩ := rfl
  unfold wGo
  rw [if_neg (by omega), hd, h2, if_pos ⟨ht, rfl⟩]
theorem wS_v {s : St} {x : Wr} {A i n : Nat} (ht : x.t = 2 + (i : Int)) (hn : x.n = n) (hi : i < n) (he : x.t ≠ x.e) (ha : x.ad = A) (h : A + 1 + i < s.xs.length) :
    (wS s x).1.xs = s.xs.set (A + 1 + i) (x.vs.getD i 0) ∧ (wS s x).2 = { x with t := x.t + 1 } := by
  have hN : wNext x = ⟨2, x.ad + (x.t - 1), x.vs.getD i 0, 0⟩ := by
    unfold wNext
    rw [if_neg he, if_neg (by omega), if_neg (by omega), if_neg (by omega), show (x.t - 2).toNat = i by omega]
  unfold wS
  rw [if_neg he, hN]
  refine ⟨storeT_xs (by simp only []; omega) h, ?_⟩
  unfold wGo
  rw [if_neg (by omega), if_neg (by omega)]
theorem wS_l {s : St} {x : Wr} {A n : Nat} (ht : x.t = 2 + (n : Int)) (hn : x.n = n) (h1 : 1 ≤ n) (he : x.t ≠ x.e) (ha : x.ad = A) (h : A < s.xs.length) :
    (wS s x).1.xs = s.xs.set A (add64 x.m 2) ∧ (wS s x).2 = { x with t := x.t + 1 } := by
  have hN : wNext x = ⟨2, x.ad, add64 x.m 2, 0⟩ := by
    unfold wNext
    rw [if_neg he, if_neg (by omega), if_neg (by omega), if_pos (by omega)]
  unfold wS
  rw [if_neg he, hN]
  refine ⟨storeT_xs ha h, ?_⟩
  unfold wGo
  rw [if_neg (by omega), if_neg (by omega)]

theorem rS_0 {s : St} {r : Rd} {A : Nat} (ht : r.x.t = 0) (he : r.x.t ≠ r.x.e) (ha : r.x.ad = A) (h : A < s.xs.length) :
    (rS s r).1.xs = s.xs ∧ (rS s r).2 = { r with k := r.k + 1, x := { r.x with m := s.xs.getD A 0, t := beginT 0 (s.xs.getD A 0) } } := by
  have hn : rNext r.x = ⟨1, r.x.ad, 0, 0⟩ := by unfold rNext; rw [if_neg he, if_pos (Or.inl ht)]
  unfold rS rTry
  rw [if_neg he, hn, if_pos ht]
  refine ⟨loadT_xs _ _, ?_⟩
  have hd : (doR s ⟨1, r.x.ad, 0, 0⟩).v = s.xs.getD A 0 := loadV_at ha h
  unfold rGo
  simp only [hd, if_pos ht]
theorem rS_v {s : St} {r : Rd} {A i n : Nat} (ht : r.x.t = 1 + (i : Int)) (hn : r.x.n = n) (hi : i < n) (he : r.x.t ≠ r.x.e) (ha : r.x.ad = A) (h : A + 1 + i < s.xs.length) :
    (rS s r).1.xs = s.xs ∧ (rS s r).2 = { r with x := { r.x with vs := r.x.vs.set i (s.xs.getD (A + 1 + i) 0), t := r.x.t + 1 } } := by
  have hN : rNext r.x = ⟨1, r.x.ad + r.x.t, 0, 0⟩ := by unfold rNext; rw [if_neg he, if_neg (by omega)]
  unfold rS rTry
  rw [if_neg he, hN, if_neg (by omega)]
  refine ⟨loadT_xs _ _, ?_⟩
  have hd : (doR s ⟨1, r.x.ad + r.x.t, 0, 0⟩).v = s.xs.getD (A + 1 + i) 0 := loadV_at (by simp only []; omega) h
  unfold rGo
  rw [if_neg (by omega), if_pos (by omega), hd, show (r.x.t - 1).toNat = i by omega]
theorem rS_ly {s : St} {r : Rd} {A n : Nat} (ht : r.x.t = 1 + (n : Int)) (hn : r.x.n = n) (he : r.x.t ≠ r.x.e) (ha : r.x.ad = A) (h : A < s.xs.length) (hm : s.xs.getD A 0 = r.x.m) :
    (rS s r).1.xs = s.xs ∧ (rS s r).2 = { r with d := true, x := { r.x with t := r.x.t + 1 } } := by
  have hN : rNext r.x = ⟨1, r.x.ad, 0, 0⟩ := by unfold rNext; rw [if_neg he, if_pos (Or.inr (by omega))]
  unfold rS rTry
  rw [if_neg he, hN, if_neg (by omega)]
  refine ⟨loadT_xs _ _, ?_⟩
  have hd : (doR s ⟨1, r.x.ad, 0, 0⟩).v = s.xs.getD A 0 := loadV_at ha h
  unfold rGo
  rw [if_neg (by omega), if_neg (by omega), hd, if_pos hm]
theorem rS_ln {s : St} {r : Rd} {A n : Nat} (ht : r.x.t = 1 + (n : Int)) (hn : r.x.n = n) (he : r.x.t ≠ r.x.e) (ha : r.x.ad = A) (h : A < s.xs.length) (hm : s.xs.getD A 0 ≠ r.x.m) :
    (rS s r).1.xs = s.xs ∧ (rS s r).2 = { r with x := { r.x with t := 0 } } := by
  have hN : rNext r.x = ⟨1, r.x.ad, 0, 0⟩ := by unfold rNext; rw [if_neg he, if_pos (Or.inr (by omega))]
  unfold rS rTry
  rw [if_neg he, hN, if_neg (by omega)]
  refine ⟨loadT_xs _ _, ?_⟩
  have hd : (doR s ⟨1, r.x.ad, 0, 0⟩).v = s.xs.getD A 0 := loadV_at ha h
  unfold rGo
  rw [if_neg (by omega), if_neg (by omega), hd, if_neg hm]

theorem get_set {l : List Int} {i j : Nat} {v : Int} (h : i < l.length) : (l.set i v).getD j 0 = if j = i then v else l.getD j 0 := by
  by_cases e : j = i
  · subst e; simp [List.getD, h]
  · rw [if_neg e]; simp [List.getD, Ne.symm e]
theorem rng_set {l : List Int} (h : ∀ v ∈ l, 0 ≤ v ∧ v ≤ 18446744073709551615) (i : Nat) {v : Int} (h0 : 0 ≤ v) (h1 : v ≤ 18446744073709551615) : ∀ u ∈ l.set i v, 0 ≤ u ∧ u ≤ 18446744073709551615 := by
  intro u hu
  rcases List.mem_or_eq_of_mem_set hu with h' | h'
  · exact h u h'
  · subst h'; exact ⟨h0, h1⟩
theorem add64_le {x v : Int} (h0 : 0 ≤ x) (h1 : 0 ≤ v) (h : x + v ≤ 18446744073709551615) : add64 x v = x + v := by
  unfold add64; omega
theorem add64_rng (x v : Int) : 0 ≤ add64 x v ∧ add64 x v ≤ 18446744073709551615 := by unfold add64; omega
theorem beginT_even {v : Int} (h : v % 2 = 0) : beginT 0 v = 1 := by unfold beginT; rw [if_pos h]; rfl
theorem beginT_odd {v : Int} (h : v % 2 ≠ 0) : beginT 0 v = 0 := by unfold beginT; rw [if_neg h]
end Go.Proofs.Ytkdgjgbmbdmmfaa
