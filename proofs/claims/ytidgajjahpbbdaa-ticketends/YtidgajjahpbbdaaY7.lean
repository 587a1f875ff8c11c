/- Holders that go on in turn, each leaving when it holds: what they are behind so many rounds. Of no program; no conditions. -/
import Derived.Test.YtidgajjahpbbdaaY5
namespace Go.Proofs.Ytidgajjahpbbdaa
open Go.RowKit

/-- Holder j behind i rounds. -/
def eH (i j : Nat) : Ho := if i = 0 then ⟨0, false, 0, 0⟩ else if j + 2 < i then ⟨0, true, 3, (j : Int)⟩ else if j + 2 = i then ⟨0, true, 2, (j : Int)⟩ else ⟨0, false, 1, (j : Int)⟩
/-- The next ticket, and the one that is served, in round i, when k of m have gone on. -/
def nW (i k m : Nat) : Nat := if i = 0 then k else m
def sV (i k m : Nat) : Nat := if i = 0 then 0 else if i < k + 2 then i - 1 else min (i - 2) m
abbrev s2 (n s d l : Int) : St := ⟨[n, s], d, l⟩

theorem nW_next (i m : Nat) : nW i m m = nW (i + 1) 0 m := by unfold nW; rw [if_neg (Nat.succ_ne_zero i)]; split <;> rfl
theorem sV_next (i m : Nat) : sV i m m = sV (i + 1) 0 m := by
  unfold sV
  rw [if_neg (Nat.succ_ne_zero i)]
  by_cases h0 : i = 0
  · subst h0; rfl
  · have e2 : ¬ i + 1 < 0 + 2 := by omega
    rw [if_neg h0, if_neg e2]
    by_cases h1 : i < m + 2
    · rw [if_pos h1]; omega
    · rw [if_neg h1]; omega

theorem hX2_0 {n s d l : Int} {x : Ho} (ha : x.ad = 0) (h : x.st = 0) : hX (s2 n s d l) x = ⟨0, x.lv, 1, n⟩ ∧ hT (s2 n s d l) x = s2 (add64 n 1) s (d + 1) (l + 1) := by
  obtain ⟨ad, lv, st, tk⟩ := x
  simp only [] at ha h
  subst ha; subst h
  exact ⟨rfl, rfl⟩
theorem hX2_1y {n s d l : Int} {x : Ho} (ha : x.ad = 0) (h : x.st = 1) (he : s = x.tk) : hX (s2 n s d l) x = ⟨0, x.lv, 2, x.tk⟩ ∧ hT (s2 n s d l) x = s2 n s (d + 1) l := by
  obtain ⟨ad, lv, st, tk⟩ := x
  simp only [] at ha h he
  subst ha; subst h; subst he
  refine ⟨?_, rfl⟩
  show hGo ⟨0, lv, 1, s⟩ ⟨s, false, 0⟩ = _
  simp [hGo]
theorem hX2_1n {n s d l : Int} {x : Ho} (ha : x.ad = 0) (h : x.st = 1) (he : s ≠ x.tk) : hX (s2 n s d l) x = x ∧ hT (s2 n s d l) x = s2 n s (d + 1) l := by
  obtain ⟨ad, lv, st, tk⟩ := x
  simp only [] at ha h he
  subst ha; subst h
  refine ⟨?_, rfl⟩
  show hGo ⟨0, lv, 1, tk⟩ ⟨s, false, 0⟩ = _
  simp [hGo, he]
theorem hX2_2l {n s d l : Int} {x : Ho} (ha : x.ad = 0) (h : x.st = 2) (hl : x.lv = true) : hX (s2 n s d l) x = ⟨0, true, 3, x.tk⟩ ∧ hT (s2 n s d l) x = s2 n (add64 x.tk 1) (d + 1) (l + 1) := by
  obtain ⟨ad, lv, st, tk⟩ := x
  simp only [] at ha h hl
  subst ha; subst h; subst hl
  exact ⟨rfl, rfl⟩

theorem eH_step (i k m : Nat) (hk : k < m) (hm : m ≤ 1000) (d l : Int) :
    ∃ d' l', hT (s2 (nW i k m) (sV i k m) d l) (eH i k) = s2 (nW i (k + 1) m) (sV i (k + 1) m) d' l' ∧ lvT (hX (s2 (nW i k m) (sV i k m) d l) (eH i k)) = eH (i + 1) k := by
  by_cases h0 : i = 0
  · subst h0
    have e0 : eH 0 k = ⟨0, false, 0, 0⟩ := rfl
    have e1 : eH (0 + 1) k = ⟨0, false, 1, (k : Int)⟩ := by unfold eH; rw [if_neg (by decide), if_neg (by omega), if_neg (by omega)]
    have en : nW 0 k m = k := rfl
    have en' : nW 0 (k + 1) m = k + 1 := rfl
    have es : sV 0 k m = 0 := rfl
    have es' : sV 0 (k + 1) m = 0 := rfl
    rw [e0, e1, en, en', es, es']
    obtain ⟨a, b⟩ := hX2_0 (n := ((k : Nat) : Int)) (s := ((0 : Nat) : Int)) (d := d) (l := l) (x := ⟨0, false, 0, 0⟩) rfl rfl
    rw [a, b, add64_1 (by omega) (by omega)]
    exact ⟨_, _, rfl, rfl⟩
  · have en : nW i k m = m := by unfold nW; rw [if_neg h0]
    have en' : nW i (k + 1) m = m := by unfold nW; rw [if_neg h0]
    rw [en, en']
    by_cases hg : k + 2 < i
    · have e0 : eH i k = ⟨0, true, 3, (k : Int)⟩ := by unfold eH; rw [if_neg h0, if_pos hg]
      have e1 : eH (i + 1) k = ⟨0, true, 3, (k : Int)⟩ := by unfold eH; rw [if_neg (Nat.succ_ne_zero i), if_pos (by omega)]
      have es : sV i (k + 1) m = sV i k m := by unfold sV; rw [if_neg h0, if_neg (by omega), if_neg (by omega), if_neg (by omega)]
      rw [e0, e1, es]
      obtain ⟨a, b⟩ := hX_no (s := s2 (m : Int) (sV i k m : Nat) d l) (x := ⟨0, true, 3, (k : Int)⟩) (by simp) (by simp) (fun h => absurd h (by simp))
      rw [a, b]
      exact ⟨_, _, rfl, rfl⟩
    · by_cases hh : k + 2 = i
      · have e0 : eH i k = ⟨0, true, 2, (k : Int)⟩ := by unfold eH; rw [if_neg h0, if_neg hg, if_pos hh]
        have e1 : eH (i + 1) k = ⟨0, true, 3, (k : Int)⟩ := by unfold eH; rw [if_neg (Nat.succ_ne_zero i), if_pos (by omega)]
        have es : sV i (k + 1) m = k + 1 := by unfold sV; rw [if_neg h0, if_pos (by omega)]; omega
        rw [e0, e1, es]
        obtain ⟨a, b⟩ := hX2_2l (n := (m : Int)) (s := (sV i k m : Nat)) (d := d) (l := l) (x := ⟨0, true, 2, (k : Int)⟩) rfl rfl rfl
        rw [a, b]
        simp only []
        rw [add64_1 (by omega) (by omega)]
        exact ⟨_, _, rfl, rfl⟩
      · have e0 : eH i k = ⟨0, false, 1, (k : Int)⟩ := by unfold eH; rw [if_neg h0, if_neg hg, if_neg hh]
        have es : sV i k m = i - 1 := by unfold sV; rw [if_neg h0, if_pos (by omega)]
        have es' : sV i (k + 1) m = i - 1 := by unfold sV; rw [if_neg h0, if_pos (by omega)]
        rw [e0, es, es']
        by_cases hs : i - 1 = k
        · have e1 : eH (i + 1) k = ⟨0, true, 2, (k : Int)⟩ := by unfold eH; rw [if_neg (Nat.succ_ne_zero i), if_neg (by omega), if_pos (by omega)]
          rw [e1]
          obtain ⟨a, b⟩ := hX2_1y (n := (m : Int)) (s := ((i - 1 : Nat) : Int)) (d := d) (l := l) (x := ⟨0, false, 1, (k : Int)⟩) rfl rfl (by simp only []; omega)
          rw [a, b]
          exact ⟨_, _, rfl, rfl⟩
        · have e1 : eH (i + 1) k = ⟨0, false, 1, (k : Int)⟩ := by unfold eH; rw [if_neg (Nat.succ_ne_zero i), if_neg (by omega), if_neg (by omega)]
          rw [e1]
          obtain ⟨a, b⟩ := hX2_1n (n := (m : Int)) (s := ((i - 1 : Nat) : Int)) (d := d) (l := l) (x := ⟨0, false, 1, (k : Int)⟩) rfl rfl (by simp only []; omega)
          rw [a, b]
          exact ⟨_, _, rfl, rfl⟩
theorem eH_ok (i k : Nat) (hk : k ≤ 1000) : HOk (eH i k) := by
  unfold eH
  split
  · exact ⟨by simp, by simp, by simp, by simp⟩
  · split
    · exact ⟨by simp, by simp, by simp only []; omega, by simp only []; omega⟩
    · split
      · exact ⟨by simp, by simp, by simp only []; omega, by simp only []; omega⟩
      · exact ⟨by simp, by simp, by simp only []; omega, by simp only []; omega⟩

/-- What stands in round i, when k of m have gone on. -/
structure En (w0 w : World) (p b i k m : Nat) (G : Nat → Nat) (v : Value) : Prop where
  sy : ∃ d l f, Sy w0 w p b [] (s2 (nW i k m) (sV i k m) d l) m G f v ∧ (∀ j, j < m → f j = if j < k then eH (i + 1) j else eH i j) ∧ Cnt (s2 (nW i k m) (sV i k m) d l) (2000 * i + k)
theorem En.first {w0 w : World} {p b m : Nat} {G : Nat → Nat} {f : Nat → Ho} {v : Value} (H : Sy w0 w p b [] ⟨List.replicate 2 0, 0, 0⟩ m G f v) (h : ∀ i, i < m → f i = ⟨0, false, 0, 0⟩) : En w0 w p b 0 0 m G v :=
  ⟨0, 0, f, H, fun j hj => by rw [h j hj, if_neg (by omega)]; rfl, ⟨by simp, by simp, by simp, by simp⟩⟩
theorem En.next {w0 w : World} {p b i m : Nat} {G : Nat → Nat} {v : Value} (H : En w0 w p b i m m G v) (hm : m ≤ 1000) : En w0 w p b (i + 1) 0 m G v := by
  obtain ⟨d, l, f, h1, h2, h3⟩ := H.sy
  rw [nW_next, sV_next] at h1 h3
  exact ⟨d, l, f, h1, fun j hj => by rw [h2 j hj, if_pos hj, if_neg (by omega)], h3.mono (by omega)⟩
/-- One goes on, and leaves if it holds. -/
theorem En.step {w0 w : World} {p b i k m : Nat} {G : Nat → Nat} {v : Value} (H : En w0 w p b i k m G v) (hk : k < m) (hm : m ≤ 1000) :
    ∃ s x s' x', Hs w p b (G k) s x ∧ HOk x ∧ Cnt s (2000 * i + k) ∧ hT s x = s' ∧ hX s x = x' ∧ (∀ q, v.ownBlock = some q → q ≠ G k ∧ q ≠ p ∧ q ≠ b) ∧
      ∀ w1 w2, Hs w1 p b (G k) s' x' ∧ But3 (G k) p b w w1 → IsHo w2 (G k) (lvT x') ∧ But (G k) (G k) w1 w2 → En w0 w2 p b i (k + 1) m G v := by
  obtain ⟨d, l, f, h1, h2, h3⟩ := H.sy
  have e := h2 k hk
  rw [if_neg (by omega)] at e
  obtain ⟨d', l', e1, e2⟩ := eH_step i k m hk hm d l
  refine ⟨_, f k, _, _, h1.hs k hk, by rw [e]; exact eH_ok i k (by omega), h3, rfl, rfl, fun q hq => ⟨fun c => h1.vG k hk (c ▸ hq), fun c => h1.vp (c ▸ hq), fun c => h1.vb (c ▸ hq)⟩, fun w1 w2 K1 K2 => ?_⟩
  have h4 := (h1.step k hk K1)
  have h5 := h4.leave k hk K2
  have hc := h3.hT (f k)
  rw [e] at h5 hc
  rw [e1] at h5 hc
  rw [e2] at h5
  refine ⟨d', l', _, h5, fun j hj => ?_, hc⟩
  by_cases ej : j = k
  · subst ej; rw [upd_at, if_pos (by omega)]
  · rw [upd_ne _ _ ej, upd_ne _ _ ej, h2 j hj]
    by_cases hjk : j < k
    · rw [if_pos hjk, if_pos (by omega)]
    · rw [if_neg hjk, if_neg (by omega)]
theorem En.slice {w0 w : World} {p b i k m : Nat} {G : Nat → Nat} {v : Value} (H : En w0 w p b i k m G v) (hk : 0 < m) :
    ∃ q c, v = .slice (some ⟨q, 0, none⟩) m c ∧ m ≤ c ∧ c ≤ maxLen ∧ ∀ i, i < m → w.cell? ⟨q, i, none⟩ = some (ptr (G i)) := by
  obtain ⟨d, l, f, h1, _⟩ := H.sy
  exact h1.slice hk
theorem En.below {w0 w w' : World} {p b i k m : Nat} {G : Nat → Nat} {v : Value} (H : En w0 w p b i k m G v) (K : Below w.heap.size w w') : En w0 w' p b i k m G v := by
  obtain ⟨d, l, f, h1, h2, h3⟩ := H.sy
  exact ⟨d, l, f, h1.below K, h2, h3⟩
/-- When all are gone. -/
theorem En.last {w0 w : World} {p b m : Nat} {G : Nat → Nat} {v : Value} (H : En w0 w p b (4 * m + 4) 0 m G v) : ∃ d l f, Sy w0 w p b [] (s2 m m d l) m G f v ∧ (∀ j, j < m → f j = ⟨0, true, 3, (j : Int)⟩) ∧ Cnt (s2 m m d l) (2000 * (4 * m + 4)) := by
  obtain ⟨d, l, f, h1, h2, h3⟩ := H.sy
  have e1 : nW (4 * m + 4) 0 m = m := by unfold nW; rw [if_neg (by omega)]
  have e2 : sV (4 * m + 4) 0 m = m := by unfold sV; rw [if_neg (by omega), if_neg (by omega)]; omega
  rw [e1, e2] at h1 h3
  refine ⟨d, l, f, h1, fun j hj => ?_, h3⟩
  rw [h2 j hj, if_neg (by omega)]
  unfold eH
  rw [if_neg (by omega), if_pos (by omega)]
end Go.Proofs.Ytidgajjahpbbdaa
