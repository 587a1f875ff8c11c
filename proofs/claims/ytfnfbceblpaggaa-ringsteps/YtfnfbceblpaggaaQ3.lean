/- A ring that nobody is at, in memory: what push and pop of the statements tell, and what is in it then: a list that is lengthened behind and shortened ahead. Conditions: the counts are far below 2^62. -/
import Derived.Test.YtfnfbceblpaggaaQ2
namespace Go.Proofs.Ytfnfbceblpaggaa
open Go.RowKit

theorem initR_fit : ∀ (l : List Int) (s : St) (A : Nat), A + l.length ≤ s.xs.length →
    (initR s A l).2 = 0 ∧ (initR s A l).1.xs.length = s.xs.length ∧ ∀ j, (initR s A l).1.xs.getD j 0 = if A ≤ j ∧ j < A + l.length then l.getD (j - A) 0 else s.xs.getD j 0
  | [], s, A, _ => by
    refine ⟨rfl, rfl, fun j => ?_⟩
    rw [if_neg (by simp)]
    rfl
  | v :: l, s, A, h => by
    simp only [List.length_cons] at h
    have hA : A < s.xs.length := by omega
    have e : initR s A (v :: l) = initR (storeT s A v) ((A + 1 : Nat) : Int) l := by
      rw [initR, if_pos (errV_nat hA)]
      rfl
    rw [e]
    have hx := storeT_nat hA v
    obtain ⟨h1, h2, h3⟩ := initR_fit l (storeT s A v) (A + 1) (by rw [hx]; simp; omega)
    refine ⟨h1, by rw [h2, hx]; simp, fun j => ?_⟩
    rw [h3 j, hx]
    simp only [List.length_cons]
    by_cases q : A + 1 ≤ j ∧ j < A + 1 + l.length
    · rw [if_pos q, if_pos (by omega), show j - A = (j - (A + 1)) + 1 by omega]
      simp [List.getD]
    · rw [if_neg q]
      by_cases e : j = A
      · subst e
        rw [if_pos (by omega), getD_eq (by omega)]
        simp [List.getD]
      · rw [if_neg (by omega), getD_ne (fun x => e x.symm)]
theorem initR_cnt : ∀ (l : List Int) (s : St) (a : Int) (c : Nat), Cnt s c → Cnt (initR s a l).1 (c + l.length)
  | [], _, _, _, h => h
  | v :: l, s, a, c, h => by
    rw [initR]
    split
    · have := initR_cnt l (storeT s a v) (a + 1) (c + 1) (h.store a v)
      exact this.mono (by simp; omega)
    · exact (h.store a v).mono (by simp)

def rg0 (n : Nat) : Rg := ⟨0, 0, fun j => if j < n then j else 0, fun _ => 0⟩
theorem rep_init {L ad n : Nat} (h : ad + 2 + 2 * n ≤ L) : Rep ad n (initR ⟨List.replicate L 0, 0, 0⟩ ad (emp n)).1.xs (rg0 n) := by
  have hl := empK_length n n
  obtain ⟨_, h2, h3⟩ := initR_fit (emp n) ⟨List.replicate L 0, 0, 0⟩ ad (by rw [hl]; simp; omega)
  rw [hl] at h3
  refine ⟨by rw [h2]; simp; omega, ?_, ?_, fun j hj => ?_, fun j hj => ?_⟩
  · rw [h3, if_pos (by omega), empK_get _ _ _ (by omega), if_neg (by omega)]; rfl
  · rw [h3, if_pos (by omega), empK_get _ _ _ (by omega), if_neg (by omega)]; rfl
  · rw [h3, if_pos (by omega), empK_get _ _ _ (by omega), if_pos (by omega)]
    simp only [rg0, if_pos hj]
    omega
  · rw [h3, if_pos (by omega), empK_get _ _ _ (by omega), if_neg (by omega)]; rfl
theorem sok_init {L ad n : Nat} (h : ad + 2 + 2 * n ≤ L) (hn : n ≤ 64) : SOk (initR ⟨List.replicate L 0, 0, 0⟩ ad (emp n)).1 := by
  have hl := empK_length n n
  obtain ⟨_, h2, h3⟩ := initR_fit (emp n) ⟨List.replicate L 0, 0, 0⟩ ad (by rw [hl]; simp; omega)
  refine ⟨fun i => ?_⟩
  rw [h3]
  have hb := emp_bounds n (i - ad)
  split
  · omega
  · simp only [List.getD]
    by_cases q : i < L
    · simp [q]
    · simp [q]
theorem qt_init {n : Nat} : Qt n (rg0 n) (fun _ => 0) := by
  refine ⟨by simp [rg0], by simp [rg0], fun p h1 h2 => by simp [rg0] at h2, fun p _ h2 => ?_⟩
  have h2 : p < n := by simpa [rg0] using h2
  simp [rg0, Nat.mod_eq_of_lt h2, h2]

/-- A ring that nobody is at, with the list L in it. -/
structure Qe (w0 : World) (p b r ad n B : Nat) (w : World) (L : List Int) (s : St) (R : Rg) (f : Nat → Int) : Prop where
  kn : Kn w0 p b r ad n w s
  rep : Rep ad n s.xs R
  qt : Qt n R f
  so : SOk s
  co : Cnt s (1000 + 20 * B)
  t : ∀ j, 0 ≤ R.T j ∧ R.T j ≤ 2 * B
  i : R.i ≤ B
  n : n ≤ B
  len : R.i = R.o + L.length
  val : ∀ k, k < L.length → f (R.o + k) = L.getD k 0
def Qw (w0 : World) (p b r ad n B : Nat) (w : World) (L : List Int) : Prop := ∃ s R f, Qe w0 p b r ad n B w L s R f
theorem Qw.kn {w0 w : World} {p b r ad n B : Nat} {L : List Int} (h : Qw w0 p b r ad n B w L) : ∃ s, Kn w0 p b r ad n w s := by
  obtain ⟨s, R, f, h⟩ := h
  exact ⟨s, h.kn⟩
theorem Qw.c0 {w0 w : World} {p b r ad n B : Nat} {L : List Int} (h : Qw w0 p b r ad n B w L) : w.cell? ⟨r, 0, none⟩ = some (.int .i64 ad) := by
  obtain ⟨s, h⟩ := h.kn
  exact h.c0
theorem Qw.c1 {w0 w : World} {p b r ad n B : Nat} {L : List Int} (h : Qw w0 p b r ad n B w L) : w.cell? ⟨r, 1, none⟩ = some (.int .i64 n) := by
  obtain ⟨s, h⟩ := h.kn
  exact h.c1
theorem Qw.bel {w0 w : World} {p b r ad n B : Nat} {L : List Int} (h : Qw w0 p b r ad n B w L) : Below w0.heap.size w0 w := by
  obtain ⟨s, h⟩ := h.kn
  exact h.bel
theorem Qw.below {w0 w w' : World} {p b r ad n B : Nat} {L : List Int} (h : Qw w0 p b r ad n B w L) (k : Below w.heap.size w w') : Qw w0 p b r ad n B w' L := by
  obtain ⟨s, R, f, h⟩ := h
  exact ⟨s, R, f, { h with kn := h.kn.below k }⟩
theorem Qw.first {w0 w : World} {p b r ad n L : Nat} (hn : 2 ≤ n) (hn2 : n ≤ 64) (hl : ad + 2 + 2 * n ≤ L) (h : Kn w0 p b r ad n w (initR ⟨List.replicate L 0, 0, 0⟩ ad (emp n)).1) : Qw w0 p b r ad n 100 w [] := by
  refine ⟨_, rg0 n, fun _ => 0, h, rep_init hl, qt_init, sok_init hl hn2, ?_, fun j => ?_, by simp [rg0], by omega, by simp [rg0], fun k hk => by simp at hk⟩
  · have := initR_cnt (emp n) ⟨List.replicate L 0, 0, 0⟩ ad 0 ⟨by simp, by simp, by simp, by simp⟩
    exact this.mono (by rw [empK_length]; omega)
  · simp only [rg0]
    split <;> omega

theorem qok_of {ad n : Nat} (ha : ad ≤ 65000) (hn : 2 ≤ n) (hn2 : n ≤ 64) : QOk (ad : Int) (n : Int) := ⟨by omega, by omega, by omega, by omega⟩
theorem Qw.push {w0 w : World} {p b r ad n B : Nat} {L : List Int} (h : Qw w0 p b r ad n B w L) (ha : ad ≤ 65000) (hn : 2 ≤ n) (hn2 : n ≤ 64) (hB : B ≤ 100000) {v : Int} (h0 : 0 ≤ v) (h1 : v ≤ 18446744073709551615) :
    Calls Try.prog 28 #[.pointer (some ⟨p, 0, none⟩), .agg #[.int .i64 ad, .int .i64 n], .int .u64 v] w fun e w' => e = .returned (.bool (decide (L.length < n))) ∧ Qw w0 p b r ad n (B + 1) w' (if L.length < n then L ++ [v] else L) := by
  obtain ⟨s, R, f, h⟩ := h
  have hq := qok_of ha hn hn2
  refine (lawP h.kn.mem h.co (by unfold bnd; omega) h.so hq h0 h1).mono ?_
  rintro e w' ⟨rfl, T⟩
  have hsm : Sm B n R ap0 := ⟨h.i, by have := h.i; have := h.qt.le; omega, by simp, h.t, h.n, by simp⟩
  obtain ⟨e1, e2⟩ := rep_run (some v) hn 10 h.rep hsm (by omega)
  have hk := run_ok 10 h.so (newP_ok hq h0 h1) h.co
  have hx : newP ad n v = toPr ad n (some v) ap0 := rfl
  rw [hx] at T hk ⊢
  have hkn := h.kn.turn T
  rw [e1]
  have hlen := h.len
  by_cases hr : L.length < n
  · obtain ⟨a1, a2⟩ := qt_push h.qt v (by omega)
    rw [a1]
    rw [a2] at e2
    rw [if_pos hr]
    have hd : decide (L.length < n) = true := by simpa using hr
    rw [hd]
    refine ⟨rfl, _, _, _, hkn, e2, h.qt.push v (by omega), hk.1, hk.2.2.mono (by omega), fun j => ?_, by have := h.i; simp only []; omega, by have := h.n; omega, by simp; omega, fun k hk => ?_⟩
    · have := h.t j
      have := h.i
      simp only [upd]
      split <;> omega
    · simp at hk
      simp only [upd]
      by_cases q : k = L.length
      · subst q
        rw [if_pos (by omega)]
        simp [List.getD]
      · rw [if_neg (by omega), h.val k (by omega)]
        simp [List.getD, List.getElem?_append_left (show k < L.length by omega)]
  · have hroom := h.qt.room
    obtain ⟨a1, a2⟩ := qt_full hn h.qt v (by omega)
    rw [a1]
    rw [a2] at e2
    rw [if_neg hr]
    have hd : decide (L.length < n) = false := by simpa using hr
    rw [hd]
    exact ⟨rfl, _, _, _, hkn, e2, h.qt, hk.1, hk.2.2.mono (by omega), fun j => by have := h.t j; omega, by have := h.i; omega, by have := h.n; omega, h.len, h.val⟩
theorem Qw.pop {w0 w : World} {p b r ad n B : Nat} {L : List Int} (h : Qw w0 p b r ad n B w L) (ha : ad ≤ 65000) (hn : 2 ≤ n) (hn2 : n ≤ 64) (hB : B ≤ 100000) :
    Calls Try.prog 29 #[.pointer (some ⟨p, 0, none⟩), .agg #[.int .i64 ad, .int .i64 n]] w fun e w' => e = .returned (.tuple #[.int .u64 (L.getD 0 0), .bool (decide (0 < L.length))]) ∧ Qw w0 p b r ad n (B + 1) w' L.tail := by
  obtain ⟨s, R, f, h⟩ := h
  have hq := qok_of ha hn hn2
  refine (lawG h.kn.mem h.co (by unfold bnd; omega) h.so hq).mono ?_
  rintro e w' ⟨rfl, T⟩
  have hsm : Sm B n R ap0 := ⟨h.i, by have := h.i; have := h.qt.le; omega, by simp, h.t, h.n, by simp⟩
  obtain ⟨e1, e2⟩ := rep_run none hn 10 h.rep hsm (by omega)
  have hk := run_ok 10 h.so (newG_ok hq) h.co
  have hx : newG ad n = toPr ad n none ap0 := rfl
  rw [hx] at T hk ⊢
  have hkn := h.kn.turn T
  rw [e1]
  have hlen := h.len
  have hroom := h.qt.room
  cases L with
  | nil =>
    obtain ⟨a1, a2⟩ := qt_none hn h.qt (by simpa using hlen.symm)
    rw [a1]
    rw [a2] at e2
    exact ⟨rfl, _, _, _, hkn, e2, h.qt, hk.1, hk.2.2.mono (by omega), fun j => by have := h.t j; omega, by have := h.i; omega, by have := h.n; omega, h.len, h.val⟩
  | cons v l =>
    simp only [List.length_cons] at hlen
    obtain ⟨a1, a2⟩ := qt_pop h.qt (by omega)
    rw [a1]
    rw [a2] at e2
    have hv := h.val 0 (by simp)
    have hv' : f R.o = v := by simpa [List.getD] using hv
    rw [hv']
    refine ⟨?_, _, _, _, hkn, e2, h.qt.pop (by omega), hk.1, hk.2.2.mono (by omega), fun j => ?_, by have := h.i; simp only []; omega, by have := h.n; omega, by simp; omega, fun k hk => ?_⟩
    · simp [gotV, gotD, List.getD]
    · have := h.t j
      have := h.i
      have := h.n
      simp only [upd]
      split <;> omega
    · have := h.val (k + 1) (by simpa using hk)
      simp only [List.tail_cons]
      rw [show R.o + 1 + k = R.o + (k + 1) by omega, this]
      simp [List.getD]
end Go.Proofs.Ytfnfbceblpaggaa
