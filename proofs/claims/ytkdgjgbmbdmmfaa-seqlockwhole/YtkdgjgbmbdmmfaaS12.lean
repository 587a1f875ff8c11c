/- A step as a function of the words and of who does it: what Step returns and leaves is that function's. Conditions: all words of the lock are there; the counts are below 2^62. -/
import Derived.Test.YtkdgjgbmbdmmfaaS11
namespace Go.Proofs.Ytkdgjgbmbdmmfaa
open Go.RowKit

/-- The words of a lock are there, and all words are numbers of 64 bits. -/
structure MOk (s : St) (ad n : Int) : Prop where
  fit : ad + n < s.xs.length
  rng : ∀ v ∈ s.xs, 0 ≤ v ∧ v ≤ 18446744073709551615

theorem Cnt.doT {s : St} {k : Nat} (h : Cnt s k) (x : Ac) : Cnt (doT s x) (k + 1) := by
  unfold Ytkdgjgbmbdmmfaa.doT
  split
  · exact h.load _
  · split
    · exact h.store _ _
    · split
      · exact h.cas _ _ _
      · split
        · exact h.add _ _
        · exact h.mono (by omega)

theorem there_in {s : St} {a : Int} (h0 : 0 ≤ a) (h1 : a < s.xs.length) : there s a = true := inB_yes.2 ⟨h0, h1⟩
theorem rng_get {l : List Int} (h : ∀ v ∈ l, 0 ≤ v ∧ v ≤ 18446744073709551615) (i : Nat) : 0 ≤ l.getD i 0 ∧ l.getD i 0 ≤ 18446744073709551615 := by
  by_cases hi : i < l.length
  · have : l.getD i 0 = l[i] := by simp [List.getD, hi]
    rw [this]
    exact h _ (List.getElem_mem hi)
  · have : l.getD i 0 = 0 := by simp [List.getD, hi]
    rw [this]; omega

theorem loadV_in {s : St} {a : Int} (h : ∀ v ∈ s.xs, 0 ≤ v ∧ v ≤ 18446744073709551615) : 0 ≤ loadV s a ∧ loadV s a ≤ 18446744073709551615 := by
  unfold loadV
  split
  · exact rng_get h _
  · omega
theorem doR_ok {s : St} {a : Ac} (hk : a.kd = 1 ∨ a.kd = 2 ∨ a.kd = 3) (h0 : 0 ≤ a.ad) (h1 : a.ad < s.xs.length) (hr : ∀ v ∈ s.xs, 0 ≤ v ∧ v ≤ 18446744073709551615) :
    (doR s a).e = 0 ∧ 0 ≤ (doR s a).v ∧ (doR s a).v ≤ 18446744073709551615 := by
  have ht := there_in h0 h1
  have hl := loadV_in (a := a.ad) hr
  have he : errV s a.ad = 0 := by simp [errV, ht]
  unfold doR
  rcases hk with hk | hk | hk
  · rw [if_pos hk]; exact ⟨he, hl⟩
  · rw [if_neg (by omega), if_pos hk]; exact ⟨he, by simp, by simp⟩
  · rw [if_neg (by omega), if_neg (by omega), if_pos hk]; exact ⟨he, by simp, by simp⟩

theorem wNext_kd {x : Wr} (ok : WOk x) (h : x.t ≠ x.e) : ((wNext x).kd = 1 ∨ (wNext x).kd = 2 ∨ (wNext x).kd = 3) ∧ x.ad ≤ (wNext x).ad ∧ (wNext x).ad ≤ x.ad + x.n := by
  obtain ⟨a0, a1, n0, n1, t0, t1, he, m0, m1⟩ := ok
  unfold wNext
  rw [if_neg h]
  split
  · exact ⟨Or.inl rfl, by simp, by simp; omega⟩
  · split
    · exact ⟨Or.inr (Or.inr rfl), by simp, by simp; omega⟩
    · split
      · exact ⟨Or.inr (Or.inl rfl), by simp, by simp; omega⟩
      · exact ⟨Or.inr (Or.inl rfl), by simp; omega, by simp; omega⟩
theorem rNext_kd {x : Wr} (ok : ROk x) (h : x.t ≠ x.e) : (rNext x).kd = 1 ∧ x.ad ≤ (rNext x).ad ∧ (rNext x).ad ≤ x.ad + x.n := by
  obtain ⟨a0, a1, n0, n1, t0, t1, he⟩ := ok
  unfold rNext
  rw [if_neg h]
  split
  · exact ⟨rfl, by simp, by simp; omega⟩
  · exact ⟨rfl, by simp; omega, by simp; omega⟩

def wS (s : St) (x : Wr) : St × Wr := if x.t = x.e then (s, x) else (doT s (wNext x), wGo x (doR s (wNext x)))
def rTry (r : Rd) : Rd := if r.x.t = 0 then { r with k := r.k + 1 } else r
def rS (s : St) (r : Rd) : St × Rd := if r.x.t = r.x.e then (s, r) else (doT s (rNext r.x), rGo (rTry r) (doR s (rNext r.x)).v)

theorem wstep_at {w : World} {p b g : Nat} {s : St} {x : Wr} {k : Nat} (h : Ws w p b g s x) (ok : WOk x) (hm : MOk s x.ad x.n) (c : Cnt s k) (hk : k ≤ bnd) :
    Calls Try.prog 13 #[.pointer (some ⟨g, 0, none⟩), .pointer (some ⟨p, 0, none⟩)] w fun e w' => e = .returned (.bool ((wS s x).2.t == (wS s x).2.e)) ∧ Ws w' p b g (wS s x).1 (wS s x).2 ∧ But3 g p b w w' := by
  unfold wS
  by_cases hd : x.t = x.e
  · rw [if_pos hd]
    have hb : (x.t == x.e) = true := by simp [hd]
    simp only [hb]
    exact wstep_done h ok hd
  · rw [if_neg hd]
    obtain ⟨k1, k2, k3⟩ := wNext_kd ok hd
    have f := hm.fit
    have a0 := ok.a0
    obtain ⟨e1, e2, e3⟩ := doR_ok (s := s) k1 (by omega) (by omega) hm.rng
    exact wstep_go h ok c hk hd e1 e2 e3

theorem rstep_at {w : World} {p b g : Nat} {s : St} {x : Rd} {k : Nat} (h : Rs w p b g s x) (ok : ROk x.x) (hm : MOk s x.x.ad x.x.n) (c : Cnt s k) (hk : k ≤ bnd) (hk0 : 0 ≤ x.k) (hk1 : x.k ≤ 4611686018427387904) :
    Calls Try.prog 14 #[.pointer (some ⟨g, 0, none⟩), .pointer (some ⟨p, 0, none⟩)] w fun e w' => e = .returned (.bool ((rS s x).2.x.t == (rS s x).2.x.e)) ∧ Rs w' p b g (rS s x).1 (rS s x).2 ∧ But3 g p b w w' := by
  unfold rS
  by_cases hd : x.x.t = x.x.e
  · rw [if_pos hd]
    have hb : (x.x.t == x.x.e) = true := by simp [hd]
    simp only [hb]
    exact rstep_done h ok hd
  · rw [if_neg hd]
    obtain ⟨k1, k2, k3⟩ := rNext_kd ok hd
    have f := hm.fit
    have a0 := ok.a0
    obtain ⟨e1, e2, e3⟩ := doR_ok (s := s) (a := rNext x.x) (Or.inl k1) (by omega) (by omega) hm.rng
    unfold rTry
    by_cases hz : x.x.t = 0
    · rw [if_pos hz]
      exact rstep_0 h ok c hk hd hz hk0 hk1 e1 e2 e3
    · rw [if_neg hz]
      exact rstep_on h ok c hk hd (beq_eq_false_iff_ne.2 hz) e1 e2 e3

theorem Cnt.wS {s : St} {k : Nat} (h : Cnt s k) (x : Wr) : Cnt (wS s x).1 (k + 1) := by
  unfold Ytkdgjgbmbdmmfaa.wS
  split
  · exact h.mono (by omega)
  · exact h.doT _
theorem Cnt.rS {s : St} {k : Nat} (h : Cnt s k) (x : Rd) : Cnt (rS s x).1 (k + 1) := by
  unfold Ytkdgjgbmbdmmfaa.rS
  split
  · exact h.mono (by omega)
  · exact h.doT _
end Go.Proofs.Ytkdgjgbmbdmmfaa
