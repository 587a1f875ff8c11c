/- A deque as its top, its bottom and the values of its slots: what a step does to it. Of no function; conditions: the positions are far below 2^62. -/
import Derived.Test.YtmglacaikpcjhaaK
namespace Go.Proofs.Ytmglacaikpcjhaa
open Go.RowKit

def upd (f : Nat → Int) (j : Nat) (v : Int) : Nat → Int := fun k => if k = j then v else f k
/-- A position as a word. -/
def rp (p : Int) : Int := p % 18446744073709551616
/-- Top, bottom, and each slot's value. -/
structure Dq where
  T : Int
  B : Int
  V : Nat → Int
structure Rep (ad n : Nat) (xs : List Int) (D : Dq) : Prop where
  len : ad + 2 + n ≤ xs.length
  hT : xs.getD ad 0 = rp D.T
  hB : xs.getD (ad + 1) 0 = rp D.B
  hV : ∀ j, j < n → xs.getD (ad + 2 + j) 0 = D.V j
/-- A task, but for its deque; its top and bottom as positions. -/
structure At where
  kd : Kd
  tn : Int
  tp : Int
  bt : Int
  vl : Int
  hs : Bool
abbrev toTk (ad n : Nat) (a : At) : Tk := ⟨ad, n, a.kd, a.tn, rp a.tp, rp a.bt, a.vl, a.hs⟩
def ix (n : Nat) (p : Int) : Nat := (p % n).toNat

def aP (n : Nat) (v : Int) (D : Dq) (a : At) : At :=
  if a.tn = 1 then { a with bt := D.B, tn := 0 }
  else if a.tn = 0 then (if (n : Int) ≤ a.bt - D.T then { a with hs := false, tn := 6 } else { a with tn := 3 })
  else if a.tn = 3 then { a with tn := 5 }
  else { a with vl := v, hs := true, tn := 6 }
def aG (n : Nat) (D : Dq) (a : At) : At :=
  if a.tn = 1 then { a with bt := D.B - 1, tn := 2 }
  else if a.tn = 2 then { a with tn := 0 }
  else if a.tn = 0 then (if a.bt < D.T then { a with tp := D.T, tn := 5 } else { a with tp := D.T, tn := 3 })
  else if a.tn = 3 then (if a.tp < a.bt then { a with vl := D.V (ix n a.bt), hs := true, tn := 6 } else { a with vl := D.V (ix n a.bt), tn := 4 })
  else if a.tn = 4 then { a with hs := decide (D.T = a.tp), tn := 5 }
  else { a with tn := 6 }
def aS (n : Nat) (D : Dq) (a : At) : At :=
  if a.tn = 0 then { a with tp := D.T, tn := 1 }
  else if a.tn = 1 then (if D.B ≤ a.tp then { a with hs := false, tn := 6 } else { a with tn := 3 })
  else if a.tn = 3 then { a with vl := D.V (ix n a.tp), tn := 4 }
  else { a with hs := decide (D.T = a.tp), tn := 6 }
def aX (n : Nat) (D : Dq) (a : At) : At :=
  if a.tn = 6 then a else match a.kd with | .push v => aP n v D a | .pop => aG n D a | .steal => aS n D a
def mvD (n : Nat) (kd : Kd) (D : Dq) (bt : Int) : Dq := match kd with | .push v => { D with V := upd D.V (ix n bt) v } | .pop => D | .steal => D
def aD (n : Nat) (D : Dq) (a : At) : Dq :=
  if a.tn = 2 then { D with B := a.bt }
  else if a.tn = 3 then mvD n a.kd D a.bt
  else if a.tn = 4 then (if D.T = a.tp then { D with T := a.tp + 1 } else D)
  else if a.tn = 5 then { D with B := a.bt + 1 }
  else D
def lim : Int := 1000000000
/-- All positions are small. -/
structure Sm (n : Nat) (D : Dq) (a : At) : Prop where
  T0 : -lim ≤ D.T
  T1 : D.T ≤ lim
  B0 : -lim ≤ D.B
  B1 : D.B ≤ lim
  p0 : -lim ≤ a.tp
  p1 : a.tp ≤ lim
  b0 : -lim ≤ a.bt
  b1 : a.bt ≤ lim
  n0 : 1 ≤ n
  n1 : n ≤ 64
  t : turnOk a.kd a.tn
  hp : a.tn = 3 → 0 ≤ posV a.kd a.tp a.bt

theorem u64m (x : Int) : IntKind.u64.wrap x = x % 18446744073709551616 := by
  simp [IntKind.wrap, IntKind.signed, IntKind.bits]
theorem i64m (x : Int) : IntKind.i64.wrap x = (x + 9223372036854775808) % 18446744073709551616 - 9223372036854775808 := IntKind.wrap_i64 x
theorem rp_add (p : Int) : add64 (rp p) 1 = rp (p + 1) := by unfold add64 rp; omega
theorem rp_dec (p : Int) : dec64 (rp p) = rp (p - 1) := by unfold dec64; rw [u64m]; unfold rp; omega
theorem rp_dif {p q : Int} (h0 : -4611686018427387904 ≤ p - q) (h1 : p - q ≤ 4611686018427387904) : difA (rp p) (rp q) = p - q := by
  unfold difA; rw [u64m, i64m]; unfold rp; omega
theorem rp_eq {p q : Int} (h0 : -4611686018427387904 ≤ p - q) (h1 : p - q ≤ 4611686018427387904) : rp p = rp q ↔ p = q := by
  unfold rp; omega
theorem rp_pos {p : Int} (h0 : 0 ≤ p) (h1 : p ≤ lim) : rp p = p := by unfold rp; unfold lim at h1; omega
theorem ix_lt {n : Nat} (h : 1 ≤ n) (p : Int) : ix n p < n := by
  unfold ix
  have m0 := Int.emod_nonneg p (show (n : Int) ≠ 0 by omega)
  have m1 := Int.emod_lt_of_pos p (show (0 : Int) < n by omega)
  omega
theorem slot_ix {ad n : Nat} {p : Int} (hn : 1 ≤ n) (h0 : 0 ≤ p) (h1 : p ≤ lim) : slotA ad n (rp p) = ((ad + 2 + ix n p : Nat) : Int) := by
  rw [rp_pos h0 h1]
  unfold slotA ix
  have m0 := Int.emod_nonneg p (show (n : Int) ≠ 0 by omega)
  generalize p % (n : Int) = m at *
  omega

theorem tx_of {s : St} {x : Tk} {a : Ac} (h6 : x.tn ≠ 6) (hn : tNext x = a) : tX s x = tGo x (doR s a) ∧ tT s x = doT s a := by
  subst hn
  exact ⟨by rw [tX, if_neg h6], by rw [tT, if_neg h6]⟩
theorem there_nat {s : St} {A : Nat} (h : A < s.xs.length) : there s A = true := inB_yes.2 ⟨by omega, by omega⟩
theorem errV_nat {s : St} {A : Nat} (h : A < s.xs.length) : errV s A = 0 := by simp [errV, there_nat h]
theorem loadV_nat {s : St} {A : Nat} (h : A < s.xs.length) : loadV s A = s.xs.getD A 0 := by simp [loadV, there_nat h]
theorem loadT_nat {s : St} {A : Nat} (h : A < s.xs.length) : (loadT s A).xs = s.xs := by simp [loadT, there_nat h]
theorem storeT_nat {s : St} {A : Nat} (h : A < s.xs.length) (v : Int) : (storeT s A v).xs = s.xs.set A v := by simp [storeT, there_nat h]
theorem casV_nat {s : St} {A : Nat} (h : A < s.xs.length) (v : Int) : casV s A v = (s.xs.getD A 0 == v) := by simp [casV, there_nat h]
theorem casT_nat {s : St} {A : Nat} (h : A < s.xs.length) (o v : Int) : (casT s A o v).xs = if s.xs.getD A 0 = o then s.xs.set A v else s.xs := by
  simp only [casT, there_nat h, if_true, Int.toNat_natCast]
  split <;> rfl
theorem getD_ne {l : List Int} {i j : Nat} {v : Int} (h : i ≠ j) : (l.set i v).getD j 0 = l.getD j 0 := by
  rw [getD_set_any, if_neg (fun x => h x.1)]
theorem getD_eq {l : List Int} {i : Nat} {v : Int} (h : i < l.length) : (l.set i v).getD i 0 = v := by
  rw [getD_set_any, if_pos ⟨rfl, h⟩]
theorem Rep.setV {ad n : Nat} {xs : List Int} {D : Dq} (h : Rep ad n xs D) {j : Nat} (hj : j < n) (v : Int) : Rep ad n (xs.set (ad + 2 + j) v) { D with V := upd D.V j v } := by
  have hl := h.len
  refine ⟨by simpa using hl, by rw [getD_ne (by omega)]; exact h.hT, by rw [getD_ne (by omega)]; exact h.hB, fun k hk => ?_⟩
  simp only [upd]
  by_cases e : k = j
  · subst e; rw [getD_eq (by omega), if_pos rfl]
  · rw [getD_ne (by omega), if_neg e]; exact h.hV k hk
theorem Rep.setT {ad n : Nat} {xs : List Int} {D : Dq} (h : Rep ad n xs D) (p : Int) : Rep ad n (xs.set ad (rp p)) { D with T := p } := by
  have hl := h.len
  exact ⟨by simpa using hl, getD_eq (by omega), by rw [getD_ne (by omega)]; exact h.hB, fun j hj => by rw [getD_ne (by omega)]; exact h.hV j hj⟩
theorem Rep.setB {ad n : Nat} {xs : List Int} {D : Dq} (h : Rep ad n xs D) (p : Int) : Rep ad n (xs.set (ad + 1) (rp p)) { D with B := p } := by
  have hl := h.len
  exact ⟨by simpa using hl, by rw [getD_ne (by omega)]; exact h.hT, getD_eq (by omega), fun j hj => by rw [getD_ne (by omega)]; exact h.hV j hj⟩

theorem rd1 {s : St} {A : Nat} (h : A < s.xs.length) : doR s ⟨1, A, 0, 0⟩ = ⟨s.xs.getD A 0, false, 0⟩ ∧ (doT s ⟨1, A, 0, 0⟩).xs = s.xs := by
  simp only [doR, doT, errV_nat h, loadV_nat h, if_true]
  exact ⟨trivial, loadT_nat h⟩
theorem rd2 {s : St} {A : Nat} (h : A < s.xs.length) (v : Int) : doR s ⟨2, A, v, 0⟩ = ⟨0, false, 0⟩ ∧ (doT s ⟨2, A, v, 0⟩).xs = s.xs.set A v := by
  have e : ¬ ((2 : Int) = 1) := by decide
  simp only [doR, doT, errV_nat h, if_neg e, if_true]
  exact ⟨trivial, storeT_nat h v⟩
theorem rd3 {s : St} {A : Nat} (h : A < s.xs.length) (o v : Int) : doR s ⟨3, A, o, v⟩ = ⟨0, s.xs.getD A 0 == o, 0⟩ ∧ (doT s ⟨3, A, o, v⟩).xs = if s.xs.getD A 0 = o then s.xs.set A v else s.xs := by
  have e : ¬ ((3 : Int) = 1) := by decide
  have e2 : ¬ ((3 : Int) = 2) := by decide
  simp only [doR, doT, errV_nat h, casV_nat h, if_neg e, if_neg e2, if_true]
  exact ⟨trivial, casT_nat h o v⟩

theorem rep_step {ad n : Nat} {s : St} {D : Dq} {a : At} (h : Rep ad n s.xs D) (sm : Sm n D a) :
    tX s (toTk ad n a) = toTk ad n (aX n D a) ∧ Rep ad n (tT s (toTk ad n a)).xs (aD n D a) := by
  have hl := h.len
  have n0 := sm.n0
  have n1 := sm.n1
  obtain ⟨T0, T1, B0, B1, p0, p1, b0, b1, _, _, ht, hp⟩ := sm
  have hLim : lim = 1000000000 := rfl
  rw [hLim] at T0 T1 B0 B1 p0 p1 b0 b1
  obtain ⟨kd, tn, tp, bt, vl, hs⟩ := a
  simp only [] at ht hp p0 p1 b0 b1
  have hA : ad < s.xs.length := by omega
  have hA1 : ad + 1 < s.xs.length := by omega
  have cA1 : ((ad : Int) + 1) = ((ad + 1 : Nat) : Int) := by omega
  by_cases q6 : tn = 6
  · subst q6
    exact ⟨by simp [tX, aX], by simpa [tT, aD] using h⟩
  by_cases q0 : tn = 0
  · subst q0
    obtain ⟨e1, e2⟩ := tx_of (s := s) (x := toTk ad n ⟨kd, 0, tp, bt, vl, hs⟩) (a := ⟨1, ad, 0, 0⟩) (by simp) (by simp [tNext])
    rw [e1, e2, (rd1 hA).1, (rd1 hA).2, h.hT]
    refine ⟨?_, by simpa [aD] using h⟩
    cases kd with
    | push v =>
      have hd := rp_dif (p := bt) (q := D.T) (by omega) (by omega)
      by_cases hc : (n : Int) ≤ bt - D.T
      · simp [tGo, goP, aX, aP, hd, hc]
      · simp [tGo, goP, aX, aP, hd, hc]
    | pop =>
      have hd := rp_dif (p := D.T) (q := bt) (by omega) (by omega)
      by_cases hc : bt < D.T
      · simp [tGo, goG, aX, aG, hd, hc]
      · simp [tGo, goG, aX, aG, hd, hc]
    | steal => simp [tGo, goS, aX, aS]
  by_cases q1 : tn = 1
  · subst q1
    obtain ⟨e1, e2⟩ := tx_of (s := s) (x := toTk ad n ⟨kd, 1, tp, bt, vl, hs⟩) (a := ⟨1, (ad + 1 : Nat), 0, 0⟩) (by simp) (by simp [tNext])
    rw [e1, e2, (rd1 hA1).1, (rd1 hA1).2, h.hB]
    refine ⟨?_, by simpa [aD] using h⟩
    cases kd with
    | push v => simp [tGo, goP, aX, aP]
    | pop => simp [tGo, goG, aX, aG, rp_dec]
    | steal =>
      have hd := rp_dif (p := tp) (q := D.B) (by omega) (by omega)
      by_cases hc : D.B ≤ tp
      · simp [tGo, goS, aX, aS, hd, hc]
      · simp [tGo, goS, aX, aS, hd, hc]
  by_cases q2 : tn = 2
  · subst q2
    obtain rfl : kd = .pop := by
      cases kd with
      | push v => simp [turnOk] at ht
      | pop => rfl
      | steal => simp [turnOk] at ht
    obtain ⟨e1, e2⟩ := tx_of (s := s) (x := toTk ad n ⟨.pop, 2, tp, bt, vl, hs⟩) (a := ⟨2, (ad + 1 : Nat), rp bt, 0⟩) (by simp) (by simp [tNext])
    rw [e1, e2, (rd2 hA1 _).1, (rd2 hA1 _).2]
    exact ⟨by simp [tGo, goG, aX, aG], by simpa [aD] using h.setB bt⟩
  by_cases q3 : tn = 3
  · subst q3
    cases kd with
    | push v =>
      have hb := hp rfl
      simp only [posV] at hb
      have hj := ix_lt n0 bt
      have hS : ad + 2 + ix n bt < s.xs.length := by omega
      obtain ⟨e1, e2⟩ := tx_of (s := s) (x := toTk ad n ⟨.push v, 3, tp, bt, vl, hs⟩) (a := ⟨2, (ad + 2 + ix n bt : Nat), v, 0⟩) (by simp) (by
        have := slot_ix (ad := ad) n0 hb (by rw [hLim]; exact b1)
        simp only [tNext, moveA, posV, this]; simp)
      rw [e1, e2, (rd2 hS _).1, (rd2 hS _).2]
      exact ⟨by simp [tGo, goP, aX, aP], by simpa [aD, mvD] using h.setV hj v⟩
    | pop =>
      have hb := hp rfl
      simp only [posV] at hb
      have hj := ix_lt n0 bt
      have hS : ad + 2 + ix n bt < s.xs.length := by omega
      obtain ⟨e1, e2⟩ := tx_of (s := s) (x := toTk ad n ⟨.pop, 3, tp, bt, vl, hs⟩) (a := ⟨1, (ad + 2 + ix n bt : Nat), 0, 0⟩) (by simp) (by
        have := slot_ix (ad := ad) n0 hb (by rw [hLim]; exact b1)
        simp only [tNext, moveA, posV, this]; simp)
      rw [e1, e2, (rd1 hS).1, (rd1 hS).2, h.hV _ hj]
      have hd := rp_dif (p := tp) (q := bt) (by omega) (by omega)
      refine ⟨?_, by simpa [aD, mvD] using h⟩
      by_cases hc : tp < bt
      · have hc' : tp - bt < 0 := by omega
        simp [tGo, goG, aX, aG, hd, hc, hc']
      · have hc' : ¬ (tp - bt < 0) := by omega
        simp [tGo, goG, aX, aG, hd, hc, hc']
    | steal =>
      have hb := hp rfl
      simp only [posV] at hb
      have hj := ix_lt n0 tp
      have hS : ad + 2 + ix n tp < s.xs.length := by omega
      obtain ⟨e1, e2⟩ := tx_of (s := s) (x := toTk ad n ⟨.steal, 3, tp, bt, vl, hs⟩) (a := ⟨1, (ad + 2 + ix n tp : Nat), 0, 0⟩) (by simp) (by
        have := slot_ix (ad := ad) n0 hb (by rw [hLim]; exact p1)
        simp only [tNext, moveA, posV, this]; simp)
      rw [e1, e2, (rd1 hS).1, (rd1 hS).2, h.hV _ hj]
      exact ⟨by simp [tGo, goS, aX, aS], by simpa [aD, mvD] using h⟩
  by_cases q4 : tn = 4
  · subst q4
    obtain ⟨e1, e2⟩ := tx_of (s := s) (x := toTk ad n ⟨kd, 4, tp, bt, vl, hs⟩) (a := ⟨3, ad, rp tp, rp (tp + 1)⟩) (by simp) (by simp [tNext, rp_add])
    rw [e1, e2, (rd3 hA _ _).1, (rd3 hA _ _).2, h.hT]
    have he := rp_eq (p := D.T) (q := tp) (by omega) (by omega)
    by_cases hc : D.T = tp
    · rw [if_pos (he.2 hc), show (rp D.T == rp tp) = true by simp [hc]]
      refine ⟨?_, by simpa [aD, hc] using h.setT (tp + 1)⟩
      cases kd with
      | push v => simp [turnOk] at ht
      | pop => simp [tGo, goG, aX, aG, hc]
      | steal => simp [tGo, goS, aX, aS, hc]
    · rw [if_neg (fun z => hc (he.1 z)), show (rp D.T == rp tp) = false from beq_eq_false_iff_ne.2 (fun z => hc (he.1 z))]
      refine ⟨?_, by simpa [aD, hc] using h⟩
      cases kd with
      | push v => simp [turnOk] at ht
      | pop => simp [tGo, goG, aX, aG, hc]
      | steal => simp [tGo, goS, aX, aS, hc]
  · obtain rfl : tn = 5 := by
      cases kd <;> simp [turnOk] at ht <;> omega
    obtain ⟨e1, e2⟩ := tx_of (s := s) (x := toTk ad n ⟨kd, 5, tp, bt, vl, hs⟩) (a := ⟨2, (ad + 1 : Nat), rp (bt + 1), 0⟩) (by simp) (by simp [tNext, rp_add])
    rw [e1, e2, (rd2 hA1 _).1, (rd2 hA1 _).2]
    refine ⟨?_, by simpa [aD] using h.setB (bt + 1)⟩
    cases kd with
    | push v => simp [tGo, goP, aX, aP]
    | pop => simp [tGo, goG, aX, aG]
    | steal => simp [turnOk] at ht

/-- Words and a task are those of a deque and a task by positions. -/
structure Stp (ad n : Nat) (s : St) (x : Tk) (D : Dq) (a : At) : Prop where
  rep : Rep ad n s.xs D
  x : x = toTk ad n a
theorem Stp.go {ad n k : Nat} {s : St} {x : Tk} {D : Dq} {a : At} (h : Stp ad n s x D a) (sm : Sm n D a) :
    ∃ s' x', run (k + 1) s x = run k s' x' ∧ Stp ad n s' x' (aD n D a) (aX n D a) := by
  obtain ⟨h1, rfl⟩ := h
  obtain ⟨e1, e2⟩ := rep_step h1 sm
  exact ⟨_, _, rfl, e2, e1⟩
/-- What a run to the end leaves. -/
structure Ran (ad n : Nat) (r : St × Tk) (D : Dq) (b : Bool) (v : Int) : Prop where
  rep : Rep ad n r.1.xs D
  don : r.2.tn = 6
  is : resB r.2 = b
  vl : b = true → resV r.2 = v
theorem Stp.ran {ad n k : Nat} {s : St} {x : Tk} {D : Dq} {a : At} (h : Stp ad n s x D a) (h6 : a.tn = 6) : Ran ad n (run k s x) D a.hs a.vl := by
  obtain ⟨h1, rfl⟩ := h
  rw [run_done (x := toTk ad n a) h6]
  refine ⟨h1, h6, ?_, ?_⟩
  · simp [resB, h6]
  · intro hb
    simp [resV, resB, h6, hb]
theorem rp0 : rp 0 = 0 := by decide
theorem push_solo {ad n : Nat} {s : St} {D : Dq} (v : Int) (h : Rep ad n s.xs D) (n0 : 1 ≤ n) (n1 : n ≤ 64) (T0 : 0 ≤ D.T) (TB : D.T ≤ D.B) (B1 : D.B < lim) :
    Ran ad n (run 10 s (newP ad n v)) (if (n : Int) ≤ D.B - D.T then D else { D with B := D.B + 1, V := upd D.V (ix n D.B) v }) (decide (¬ (n : Int) ≤ D.B - D.T)) v := by
  have hLim : lim = 1000000000 := rfl
  rw [hLim] at B1
  have st : Stp ad n s (newP ad n v) D ⟨.push v, 1, 0, 0, 0, false⟩ := ⟨h, by simp [toTk, rp0]⟩
  obtain ⟨s1, x1, e1, st1⟩ := st.go (k := 9) ⟨by rw [hLim]; omega, by rw [hLim]; omega, by rw [hLim]; omega, by rw [hLim]; omega, by rw [hLim]; simp, by rw [hLim]; simp, by rw [hLim]; simp, by rw [hLim]; simp, n0, n1, by simp [turnOk], by simp⟩
  rw [e1]
  simp [aD, aX, aP] at st1
  obtain ⟨s2, x2, e2, st2⟩ := st1.go (k := 8) ⟨by rw [hLim]; omega, by rw [hLim]; omega, by rw [hLim]; omega, by rw [hLim]; omega, by rw [hLim]; simp, by rw [hLim]; simp, by rw [hLim]; simp only []; omega, by rw [hLim]; simp only []; omega, n0, n1, by simp [turnOk], by simp⟩
  rw [e2]
  by_cases hc : (n : Int) ≤ D.B - D.T
  · simp [aD, aX, aP, hc] at st2
    have := st2.ran (k := 8) rfl
    rw [if_pos hc, show decide (¬ (n : Int) ≤ D.B - D.T) = false by simp [hc]]
    exact ⟨this.rep, this.don, this.is, fun z => by cases z⟩
  · simp [aD, aX, aP, hc] at st2
    obtain ⟨s3, x3, e3, st3⟩ := st2.go (k := 7) ⟨by rw [hLim]; omega, by rw [hLim]; omega, by rw [hLim]; omega, by rw [hLim]; omega, by rw [hLim]; simp, by rw [hLim]; simp, by rw [hLim]; simp only []; omega, by rw [hLim]; simp only []; omega, n0, n1, by simp [turnOk], by simp only [posV]; omega⟩
    rw [e3]
    simp [aD, aX, aP, mvD] at st3
    obtain ⟨s4, x4, e4, st4⟩ := st3.go (k := 6) ⟨by rw [hLim]; simp only []; omega, by rw [hLim]; simp only []; omega, by rw [hLim]; simp only []; omega, by rw [hLim]; simp only []; omega, by rw [hLim]; simp, by rw [hLim]; simp, by rw [hLim]; simp only []; omega, by rw [hLim]; simp only []; omega, n0, n1, by simp [turnOk], by simp⟩
    rw [e4]
    simp [aD, aX, aP] at st4
    rw [if_neg hc, show decide (¬ (n : Int) ≤ D.B - D.T) = true by simp [hc]]
    exact st4.ran (k := 6) rfl
theorem steal_solo {ad n : Nat} {s : St} {D : Dq} (h : Rep ad n s.xs D) (n0 : 1 ≤ n) (n1 : n ≤ 64) (T0 : 0 ≤ D.T) (TB : D.T ≤ D.B) (B1 : D.B < lim) :
    Ran ad n (run 10 s (newS ad n)) (if D.B ≤ D.T then D else { D with T := D.T + 1 }) (decide (¬ D.B ≤ D.T)) (D.V (ix n D.T)) := by
  have hLim : lim = 1000000000 := rfl
  rw [hLim] at B1
  have st : Stp ad n s (newS ad n) D ⟨.steal, 0, 0, 0, 0, false⟩ := ⟨h, by simp [toTk, rp0]⟩
  obtain ⟨s1, x1, e1, st1⟩ := st.go (k := 9) ⟨by rw [hLim]; omega, by rw [hLim]; omega, by rw [hLim]; omega, by rw [hLim]; omega, by rw [hLim]; simp, by rw [hLim]; simp, by rw [hLim]; simp, by rw [hLim]; simp, n0, n1, by simp [turnOk], by simp⟩
  rw [e1]
  simp [aD, aX, aS] at st1
  obtain ⟨s2, x2, e2, st2⟩ := st1.go (k := 8) ⟨by rw [hLim]; omega, by rw [hLim]; omega, by rw [hLim]; omega, by rw [hLim]; omega, by rw [hLim]; simp only []; omega, by rw [hLim]; simp only []; omega, by rw [hLim]; simp, by rw [hLim]; simp, n0, n1, by simp [turnOk], by simp⟩
  rw [e2]
  by_cases hc : D.B ≤ D.T
  · simp [aD, aX, aS, hc] at st2
    have := st2.ran (k := 8) rfl
    rw [if_pos hc, show decide (¬ D.B ≤ D.T) = false by simp [hc]]
    exact ⟨this.rep, this.don, this.is, fun z => by cases z⟩
  · simp [aD, aX, aS, hc] at st2
    obtain ⟨s3, x3, e3, st3⟩ := st2.go (k := 7) ⟨by rw [hLim]; omega, by rw [hLim]; omega, by rw [hLim]; omega, by rw [hLim]; omega, by rw [hLim]; simp only []; omega, by rw [hLim]; simp only []; omega, by rw [hLim]; simp, by rw [hLim]; simp, n0, n1, by simp [turnOk], by simp only [posV]; omega⟩
    rw [e3]
    simp [aD, aX, aS, mvD] at st3
    obtain ⟨s4, x4, e4, st4⟩ := st3.go (k := 6) ⟨by rw [hLim]; omega, by rw [hLim]; omega, by rw [hLim]; omega, by rw [hLim]; omega, by rw [hLim]; simp only []; omega, by rw [hLim]; simp only []; omega, by rw [hLim]; simp, by rw [hLim]; simp, n0, n1, by simp [turnOk], by simp⟩
    rw [e4]
    simp [aD, aX, aS] at st4
    rw [if_neg hc, show decide (¬ D.B ≤ D.T) = true by simp [hc]]
    exact st4.ran (k := 6) rfl
theorem pop_solo {ad n : Nat} {s : St} {D : Dq} (h : Rep ad n s.xs D) (n0 : 1 ≤ n) (n1 : n ≤ 64) (T0 : 0 ≤ D.T) (TB : D.T ≤ D.B) (B1 : D.B < lim) :
    Ran ad n (run 10 s (newG ad n)) (if D.B ≤ D.T then D else if D.T = D.B - 1 then { D with T := D.B } else { D with B := D.B - 1 }) (decide (¬ D.B ≤ D.T)) (D.V (ix n (D.B - 1))) := by
  have hLim : lim = 1000000000 := rfl
  rw [hLim] at B1
  have st : Stp ad n s (newG ad n) D ⟨.pop, 1, 0, 0, 0, false⟩ := ⟨h, by simp [toTk, rp0]⟩
  obtain ⟨s1, x1, e1, st1⟩ := st.go (k := 9) ⟨by rw [hLim]; omega, by rw [hLim]; omega, by rw [hLim]; omega, by rw [hLim]; omega, by rw [hLim]; simp, by rw [hLim]; simp, by rw [hLim]; simp, by rw [hLim]; simp, n0, n1, by simp [turnOk], by simp⟩
  rw [e1]
  simp [aD, aX, aG] at st1
  obtain ⟨s2, x2, e2, st2⟩ := st1.go (k := 8) ⟨by rw [hLim]; omega, by rw [hLim]; omega, by rw [hLim]; omega, by rw [hLim]; omega, by rw [hLim]; simp, by rw [hLim]; simp, by rw [hLim]; simp only []; omega, by rw [hLim]; simp only []; omega, n0, n1, by simp [turnOk], by simp⟩
  rw [e2]
  simp [aD, aX, aG] at st2
  obtain ⟨s3, x3, e3, st3⟩ := st2.go (k := 7) ⟨by rw [hLim]; simp only []; omega, by rw [hLim]; simp only []; omega, by rw [hLim]; simp only []; omega, by rw [hLim]; simp only []; omega, by rw [hLim]; simp, by rw [hLim]; simp, by rw [hLim]; simp only []; omega, by rw [hLim]; simp only []; omega, n0, n1, by simp [turnOk], by simp⟩
  rw [e3]
  by_cases hc : D.B ≤ D.T
  · have hc' : D.B - 1 < D.T := by omega
    simp [aD, aX, aG, hc'] at st3
    obtain ⟨s4, x4, e4, st4⟩ := st3.go (k := 6) ⟨by rw [hLim]; simp only []; omega, by rw [hLim]; simp only []; omega, by rw [hLim]; simp only []; omega, by rw [hLim]; simp only []; omega, by rw [hLim]; simp only []; omega, by rw [hLim]; simp only []; omega, by rw [hLim]; simp only []; omega, by rw [hLim]; simp only []; omega, n0, n1, by simp [turnOk], by simp⟩
    rw [e4]
    simp [aD, aX, aG] at st4
    have := st4.ran (k := 6) rfl
    rw [if_pos hc, show decide (¬ D.B ≤ D.T) = false by simp [hc]]
    exact ⟨this.rep, this.don, this.is, fun z => by cases z⟩
  · have hc' : ¬ D.B - 1 < D.T := by omega
    simp [aD, aX, aG, hc'] at st3
    obtain ⟨s4, x4, e4, st4⟩ := st3.go (k := 6) ⟨by rw [hLim]; simp only []; omega, by rw [hLim]; simp only []; omega, by rw [hLim]; simp only []; omega, by rw [hLim]; simp only []; omega, by rw [hLim]; simp only []; omega, by rw [hLim]; simp only []; omega, by rw [hLim]; simp only []; omega, by rw [hLim]; simp only []; omega, n0, n1, by simp [turnOk], by simp only [posV]; omega⟩
    rw [e4, if_neg hc, show decide (¬ D.B ≤ D.T) = true by simp [hc]]
    by_cases hl : D.T = D.B - 1
    · have hl' : ¬ D.T < D.B - 1 := by omega
      simp [aD, aX, aG, hl', mvD] at st4
      obtain ⟨s5, x5, e5, st5⟩ := st4.go (k := 5) ⟨by rw [hLim]; simp only []; omega, by rw [hLim]; simp only []; omega, by rw [hLim]; simp only []; omega, by rw [hLim]; simp only []; omega, by rw [hLim]; simp only []; omega, by rw [hLim]; simp only []; omega, by rw [hLim]; simp only []; omega, by rw [hLim]; simp only []; omega, n0, n1, by simp [turnOk], by simp⟩
      rw [e5]
      simp [aD, aX, aG] at st5
      obtain ⟨s6, x6, e6, st6⟩ := st5.go (k := 4) ⟨by rw [hLim]; simp only []; omega, by rw [hLim]; simp only []; omega, by rw [hLim]; simp only []; omega, by rw [hLim]; simp only []; omega, by rw [hLim]; simp only []; omega, by rw [hLim]; simp only []; omega, by rw [hLim]; simp only []; omega, by rw [hLim]; simp only []; omega, n0, n1, by simp [turnOk], by simp⟩
      rw [e6]
      simp [aD, aX, aG] at st6
      rw [if_pos hl]
      have := st6.ran (k := 4) rfl
      simp only [] at this
      rw [show D.T + 1 = D.B by omega] at this
      exact this
    · have hl' : D.T < D.B - 1 := by omega
      simp [aD, aX, aG, hl', mvD] at st4
      rw [if_neg hl]
      exact st4.ran (k := 6) rfl
end Go.Proofs.Ytmglacaikpcjhaa
