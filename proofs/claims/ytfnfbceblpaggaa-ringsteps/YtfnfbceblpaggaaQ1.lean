/- A ring as two counts and the turns and values of its slots: what a step does to it. Of no function; conditions: the counts are far below 2^62. -/
import Derived.Test.YtfnfbceblpaggaaL8
namespace Go.Proofs.Ytfnfbceblpaggaa
open Go.RowKit

def upd (f : Nat → Int) (j : Nat) (v : Int) : Nat → Int := fun k => if k = j then v else f k
/-- Two counts, and each slot's turn and value. -/
structure Rg where
  i : Nat
  o : Nat
  T : Nat → Int
  V : Nat → Int
structure Rep (ad n : Nat) (xs : List Int) (r : Rg) : Prop where
  len : ad + 2 + 2 * n ≤ xs.length
  hi : xs.getD ad 0 = r.i
  ho : xs.getD (ad + 1) 0 = r.o
  hT : ∀ j, j < n → xs.getD (ad + 2 + 2 * j) 0 = r.T j
  hV : ∀ j, j < n → xs.getD (ad + 3 + 2 * j) 0 = r.V j
/-- One who pushes or pops, but for its ring and value. -/
structure Ap where
  tn : Nat
  ps : Nat
  mv : Int
  wh : Bool
abbrev toPr (ad n : Nat) (pv : Option Int) (a : Ap) : Pr := ⟨ad, n, pv, a.tn, a.ps, a.mv, a.wh⟩

def cN (pv : Option Int) (r : Rg) : Nat := match pv with | some _ => r.i | none => r.o
def cS (pv : Option Int) (r : Rg) (k : Nat) : Rg := match pv with | some _ => { r with i := k } | none => { r with o := k }
def opN (pv : Option Int) (p : Nat) : Nat := match pv with | some _ => p | none => p + 1
def lfN (pv : Option Int) (n p : Nat) : Nat := match pv with | some _ => p + 1 | none => p + n
def mvV (pv : Option Int) (r : Rg) (j : Nat) : Int := match pv with | some _ => 0 | none => r.V j
def mvR (pv : Option Int) (r : Rg) (j : Nat) : Rg := match pv with | some v => { r with V := upd r.V j v } | none => r
def aX (n : Nat) (pv : Option Int) (r : Rg) (a : Ap) : Ap :=
  if a.tn = 0 then { a with ps := cN pv r, tn := 1 }
  else if a.tn = 1 then (if r.T (a.ps % n) = (opN pv a.ps : Int) then { a with tn := 2 } else if r.T (a.ps % n) < (opN pv a.ps : Int) then { a with tn := 5 } else { a with tn := 0 })
  else if a.tn = 2 then (if cN pv r = a.ps then { a with tn := 3 } else { a with tn := 0 })
  else if a.tn = 3 then { a with mv := mvV pv r (a.ps % n), tn := 4 }
  else if a.tn = 4 then { a with wh := true, tn := 5 }
  else a
def aR (n : Nat) (pv : Option Int) (r : Rg) (a : Ap) : Rg :=
  if a.tn = 2 then (if cN pv r = a.ps then cS pv r (a.ps + 1) else r)
  else if a.tn = 3 then mvR pv r (a.ps % n)
  else if a.tn = 4 then { r with T := upd r.T (a.ps % n) (lfN pv n a.ps) }
  else r
structure Sm (B n : Nat) (r : Rg) (a : Ap) : Prop where
  i : r.i ≤ B
  o : r.o ≤ B
  p : a.ps ≤ B
  t : ∀ j, 0 ≤ r.T j ∧ r.T j ≤ 2 * B
  n : n ≤ B
  tn : a.tn ≤ 5

theorem px_of {s : St} {x : Pr} {a : Ac} (h5 : x.tn ≠ 5) (hn : pNext x = a) : pX s x = pGo x (doR s a) ∧ pT s x = doT s a := by
  subst hn
  exact ⟨by rw [pX, if_neg h5], by rw [pT, if_neg h5]⟩
theorem there_nat {s : St} {A : Nat} (h : A < s.xs.length) : there s A = true := inB_yes.2 ⟨by omega, by omega⟩
theorem errV_nat {s : St} {A : Nat} (h : A < s.xs.length) : errV s A = 0 := by simp [errV, there_nat h]
theorem loadV_nat {s : St} {A : Nat} (h : A < s.xs.length) : loadV s A = s.xs.getD A 0 := by simp [loadV, there_nat h]
theorem loadT_nat {s : St} {A : Nat} (h : A < s.xs.length) : (loadT s A).xs = s.xs := by simp [loadT, there_nat h]
theorem storeT_nat {s : St} {A : Nat} (h : A < s.xs.length) (v : Int) : (storeT s A v).xs = s.xs.set A v := by simp [storeT, there_nat h]
theorem casV_nat {s : St} {A : Nat} (h : A < s.xs.length) (v : Int) : casV s A v = (s.xs.getD A 0 == v) := by simp [casV, there_nat h]
theorem casT_nat {s : St} {A : Nat} (h : A < s.xs.length) (o v : Int) : (casT s A o v).xs = if s.xs.getD A 0 = o then s.xs.set A v else s.xs := by
  simp only [casT, there_nat h, if_true, Int.toNat_natCast]
  split <;> rfl
theorem slot_nat (ad n ps : Nat) : slotA ad n ps = ((ad + 2 + 2 * (ps % n) : Nat) : Int) := by simp [slotA]
theorem slot1_nat (ad n ps : Nat) : slotA ad n ps + 1 = ((ad + 3 + 2 * (ps % n) : Nat) : Int) := by rw [slot_nat]; omega
theorem cnt_nat (pv : Option Int) (ad : Nat) : ∃ c : Nat, cntA pv ad = ((ad + c : Nat) : Int) ∧ (∀ xs n r, Rep ad n xs r → xs.getD (ad + c) 0 = cN pv r) ∧ c ≤ 1 := by
  cases pv with
  | some v => exact ⟨0, rfl, fun xs n r h => h.hi, by omega⟩
  | none => exact ⟨1, by simp [cntA], fun xs n r h => h.ho, by omega⟩
theorem add64_nat {a b : Nat} (h : a + b < 18446744073709551616) : add64 a b = ((a + b : Nat) : Int) := by unfold add64; omega
theorem dif_nat {t : Int} {o : Nat} (h0 : 0 ≤ t) (h1 : t ≤ 4611686018427387904) (h2 : o ≤ 4611686018427387904) : difA t o = t - o := by
  unfold difA
  simp [IntKind.wrap, IntKind.signed, IntKind.bits]
  omega
theorem opens_nat {pv : Option Int} {p : Nat} (h : p < 1000000000) : opensV pv p = (opN pv p : Int) := by
  cases pv with
  | some v => rfl
  | none => simp only [opensV, opN]; exact add64_nat (b := 1) (by omega)
theorem left_nat {pv : Option Int} {p n : Nat} (h : p < 1000000000) (hn : n < 1000000000) : leftV pv n p = (lfN pv n p : Int) := by
  cases pv with
  | some v => simp only [leftV, lfN]; exact add64_nat (b := 1) (by omega)
  | none => simp only [leftV, lfN]; exact add64_nat (by omega)

theorem getD_ne {l : List Int} {i j : Nat} {v : Int} (h : i ≠ j) : (l.set i v).getD j 0 = l.getD j 0 := by
  rw [getD_set_any, if_neg (fun x => h x.1)]
theorem getD_eq {l : List Int} {i : Nat} {v : Int} (h : i < l.length) : (l.set i v).getD i 0 = v := by
  rw [getD_set_any, if_pos ⟨rfl, h⟩]
theorem Rep.setT {ad n : Nat} {xs : List Int} {r : Rg} (h : Rep ad n xs r) {j : Nat} (hj : j < n) (v : Int) : Rep ad n (xs.set (ad + 2 + 2 * j) v) { r with T := upd r.T j v } := by
  have hl := h.len
  refine ⟨by simpa using hl, by rw [getD_ne (by omega)]; exact h.hi, by rw [getD_ne (by omega)]; exact h.ho, fun k hk => ?_, fun k hk => by rw [getD_ne (by omega)]; exact h.hV k hk⟩
  simp only [upd]
  by_cases e : k = j
  · subst e; rw [getD_eq (by omega), if_pos rfl]
  · rw [getD_ne (by omega), if_neg e]; exact h.hT k hk
theorem Rep.setV {ad n : Nat} {xs : List Int} {r : Rg} (h : Rep ad n xs r) {j : Nat} (hj : j < n) (v : Int) : Rep ad n (xs.set (ad + 3 + 2 * j) v) { r with V := upd r.V j v } := by
  have hl := h.len
  refine ⟨by simpa using hl, by rw [getD_ne (by omega)]; exact h.hi, by rw [getD_ne (by omega)]; exact h.ho, fun k hk => by rw [getD_ne (by omega)]; exact h.hT k hk, fun k hk => ?_⟩
  simp only [upd]
  by_cases e : k = j
  · subst e; rw [getD_eq (by omega), if_pos rfl]
  · rw [getD_ne (by omega), if_neg e]; exact h.hV k hk
theorem Rep.setI {ad n : Nat} {xs : List Int} {r : Rg} (h : Rep ad n xs r) (k : Nat) : Rep ad n (xs.set ad k) { r with i := k } := by
  have hl := h.len
  exact ⟨by simpa using hl, getD_eq (by omega), by rw [getD_ne (by omega)]; exact h.ho, fun j hj => by rw [getD_ne (by omega)]; exact h.hT j hj, fun j hj => by rw [getD_ne (by omega)]; exact h.hV j hj⟩
theorem Rep.setO {ad n : Nat} {xs : List Int} {r : Rg} (h : Rep ad n xs r) (k : Nat) : Rep ad n (xs.set (ad + 1) k) { r with o := k } := by
  have hl := h.len
  exact ⟨by simpa using hl, by rw [getD_ne (by omega)]; exact h.hi, getD_eq (by omega), fun j hj => by rw [getD_ne (by omega)]; exact h.hT j hj, fun j hj => by rw [getD_ne (by omega)]; exact h.hV j hj⟩
theorem Rep.setC {ad n c : Nat} {xs : List Int} {r : Rg} {pv : Option Int} (h : Rep ad n xs r) (k : Nat) (hc : cntA pv ad = ((ad + c : Nat) : Int)) : Rep ad n (xs.set (ad + c) k) (cS pv r k) := by
  cases pv with
  | some v =>
    obtain rfl : c = 0 := by simp [cntA] at hc; omega
    exact h.setI k
  | none =>
    obtain rfl : c = 1 := by simp [cntA] at hc; omega
    exact h.setO k

theorem rd1 {s : St} {A : Nat} (h : A < s.xs.length) : doR s ⟨1, A, 0, 0⟩ = ⟨s.xs.getD A 0, false, 0⟩ ∧ (doT s ⟨1, A, 0, 0⟩).xs = s.xs := by
  simp only [doR, doT, errV_nat h, loadV_nat h, if_true]
  exact ⟨trivial, loadT_nat h⟩
theorem rd2 {s : St} {A : Nat} (h : A < s.xs.length) (v : Int) : doR s ⟨2, A, v, 0⟩ = ⟨0, false, 0⟩ ∧ (doT s ⟨2, A, v, 0⟩).xs = s.xs.set A v := by
  have e : ¬ ((2 : Int) = 1) := by decide
  simp only [doR, doT, errV_nat h, if_neg e, if_true]
  exact ⟨trivial, storeT_nat h v⟩
theorem rd3 {s : St} {A : Nat} (h : A < s.xs.length) (o v : Int) : doR s ⟨3, A, o, v⟩ = ⟨0, s.xs.getD A 0 == o, 0⟩ ∧ (doT s ⟨3, A, o, v⟩).xs = if s.xs.getD A 0 = o then s.xs.set A v else s.xs := by
  have e : ¬ ((3 : Int) = 1) := by decide
  have e2 : ¬ ((3 : Int) = 2) := by decide
  simp only [doR, doT, errV_nat h, casV_nat h, if_neg e, if_neg e2, if_true]
  exact ⟨trivial, casT_nat h o v⟩
theorem rep_step {ad n B : Nat} {s : St} {r : Rg} {a : Ap} (pv : Option Int) (hn : 2 ≤ n) (h : Rep ad n s.xs r) (sm : Sm B n r a) (hB : B ≤ 1000000) :
    pX s (toPr ad n pv a) = toPr ad n pv (aX n pv r a) ∧ Rep ad n (pT s (toPr ad n pv a)).xs (aR n pv r a) := by
  have hl := h.len
  have hm : a.ps % n < n := Nat.mod_lt _ (by omega)
  have hp := sm.p
  have hnB := sm.n
  obtain ⟨tn, ps, mv, wh⟩ := a
  obtain ⟨c, hc, hcv, hc1⟩ := cnt_nat pv ad
  have htn : tn ≤ 5 := sm.tn
  simp only [] at hm hp
  have hC : ad + c < s.xs.length := by omega
  have hS : ad + 2 + 2 * (ps % n) < s.xs.length := by omega
  have hS1 : ad + 3 + 2 * (ps % n) < s.xs.length := by omega
  have hcv := hcv _ _ _ h
  have hsT := h.hT _ hm
  have hsV := h.hV _ hm
  have wT := h.setT hm (lfN pv n ps)
  have wV := fun v => h.setV hm v
  have wC := h.setC (ps + 1) hc
  have hs0 := slot_nat ad n ps
  have hs1 := slot1_nat ad n ps
  generalize ad + c = C at *
  generalize ad + 2 + 2 * (ps % n) = S at *
  generalize ad + 3 + 2 * (ps % n) = S1 at *
  obtain rfl | rfl | rfl | rfl | rfl | rfl : tn = 0 ∨ tn = 1 ∨ tn = 2 ∨ tn = 3 ∨ tn = 4 ∨ tn = 5 := by omega
  · obtain ⟨e1, e2⟩ := px_of (s := s) (x := toPr ad n pv ⟨0, ps, mv, wh⟩) (a := ⟨1, C, 0, 0⟩) (by simp) (by simp [pNext, hc])
    rw [e1, e2, (rd1 hC).1, (rd1 hC).2, hcv]
    exact ⟨by simp [pGo, aX], h⟩
  · obtain ⟨e1, e2⟩ := px_of (s := s) (x := toPr ad n pv ⟨1, ps, mv, wh⟩) (a := ⟨1, S, 0, 0⟩) (by simp) (by simp only [pNext, hs0]; simp)
    rw [e1, e2, (rd1 hS).1, (rd1 hS).2, hsT]
    have ht := sm.t (ps % n)
    refine ⟨?_, by simpa [aR] using h⟩
    have hd := dif_nat (t := r.T (ps % n)) (o := opN pv ps) ht.1 (by omega) (by unfold opN; split <;> omega)
    have ho := opens_nat (pv := pv) (show ps < 1000000000 by omega)
    have e3 : pGo (toPr ad n pv ⟨1, ps, mv, wh⟩) ⟨r.T (ps % n), false, 0⟩ = { toPr ad n pv ⟨1, ps, mv, wh⟩ with tn := bhT (difA (r.T (ps % n)) (opensV pv ps)) } := by simp [pGo]
    have e4 : aX n pv r ⟨1, ps, mv, wh⟩ = if r.T (ps % n) = (opN pv ps : Int) then ⟨2, ps, mv, wh⟩ else if r.T (ps % n) < (opN pv ps : Int) then ⟨5, ps, mv, wh⟩ else ⟨0, ps, mv, wh⟩ := by simp [aX]
    rw [e3, e4, ho, hd]
    generalize opN pv ps = O
    generalize r.T (ps % n) = t
    unfold bhT
    by_cases q1 : t = (O : Int)
    · rw [if_pos (by omega), if_pos q1]; rfl
    · by_cases q2 : t < (O : Int)
      · rw [if_neg (by omega), if_pos (by omega), if_neg q1, if_pos q2]; rfl
      · rw [if_neg (by omega), if_neg (by omega), if_neg q1, if_neg q2]; rfl
  · obtain ⟨e1, e2⟩ := px_of (s := s) (x := toPr ad n pv ⟨2, ps, mv, wh⟩) (a := ⟨3, C, ps, ((ps + 1 : Nat) : Int)⟩) (by simp) (by
      have e : add64 ps 1 = ((ps + 1 : Nat) : Int) := add64_nat (a := ps) (b := 1) (by omega)
      simp only [pNext, hc, e]
      simp)
    rw [e1, e2, (rd3 hC _ _).1, (rd3 hC _ _).2, hcv]
    have e4 : aX n pv r ⟨2, ps, mv, wh⟩ = if cN pv r = ps then ⟨3, ps, mv, wh⟩ else ⟨0, ps, mv, wh⟩ := by simp [aX]
    have e5 : aR n pv r ⟨2, ps, mv, wh⟩ = if cN pv r = ps then cS pv r (ps + 1) else r := by simp [aR]
    rw [e4, e5]
    by_cases q : cN pv r = ps
    · rw [if_pos q, if_pos q, if_pos (by omega)]
      exact ⟨by simp [pGo, q], wC⟩
    · rw [if_neg q, if_neg q, if_neg (by omega)]
      have q' : ((cN pv r : Int) == (ps : Int)) = false := beq_eq_false_iff_ne.2 (by omega)
      rw [q']
      exact ⟨by simp [pGo], h⟩
  · cases pv with
    | some v =>
      obtain ⟨e1, e2⟩ := px_of (s := s) (x := toPr ad n (some v) ⟨3, ps, mv, wh⟩) (a := ⟨2, S1, v, 0⟩) (by simp) (by simp only [pNext, hs1]; simp [moveA])
      rw [e1, e2, (rd2 hS1 _).1, (rd2 hS1 _).2]
      exact ⟨by simp [pGo, aX, mvV], by simpa [aR, mvR] using wV v⟩
    | none =>
      obtain ⟨e1, e2⟩ := px_of (s := s) (x := toPr ad n none ⟨3, ps, mv, wh⟩) (a := ⟨1, S1, 0, 0⟩) (by simp) (by simp only [pNext, hs1]; simp [moveA])
      rw [e1, e2, (rd1 hS1).1, (rd1 hS1).2, hsV]
      exact ⟨by simp [pGo, aX, mvV], by simpa [aR, mvR] using h⟩
  · obtain ⟨e1, e2⟩ := px_of (s := s) (x := toPr ad n pv ⟨4, ps, mv, wh⟩) (a := ⟨2, S, lfN pv n ps, 0⟩) (by simp) (by
      simp only [pNext, hs0, left_nat (pv := pv) (show ps < 1000000000 by omega) (show n < 1000000000 by omega)]; simp)
    rw [e1, e2, (rd2 hS _).1, (rd2 hS _).2]
    exact ⟨by simp [pGo, aX], by simpa [aR] using wT⟩
  · exact ⟨by simp [pX, aX], by simpa [pT, aR] using h⟩
theorem Sm.step {B n : Nat} {r : Rg} {a : Ap} (pv : Option Int) (h : Sm B n r a) : Sm (B + 1) n (aR n pv r a) (aX n pv r a) := by
  obtain ⟨h1, h2, h3, h4, h5, h6⟩ := h
  have t : ∀ j, 0 ≤ r.T j ∧ r.T j ≤ 2 * ((B + 1 : Nat) : Int) := fun j => by have := h4 j; omega
  have hR : (aR n pv r a).i ≤ B + 1 ∧ (aR n pv r a).o ≤ B + 1 ∧ ∀ j, 0 ≤ (aR n pv r a).T j ∧ (aR n pv r a).T j ≤ 2 * ((B + 1 : Nat) : Int) := by
    unfold aR
    split
    · split
      · unfold cS
        split
        · exact ⟨by simp only []; omega, by simp only []; omega, t⟩
        · exact ⟨by simp only []; omega, by simp only []; omega, t⟩
      · exact ⟨by omega, by omega, t⟩
    · split
      · unfold mvR
        split
        · exact ⟨by simp only []; omega, by simp only []; omega, t⟩
        · exact ⟨by omega, by omega, t⟩
      · split
        · refine ⟨by simp only []; omega, by simp only []; omega, fun j => ?_⟩
          simp only [upd]
          split
          · unfold lfN
            split <;> omega
          · exact t j
        · exact ⟨by omega, by omega, t⟩
  have hA : (aX n pv r a).ps ≤ B + 1 ∧ (aX n pv r a).tn ≤ 5 := by
    unfold aX
    split
    · refine ⟨?_, by simp⟩
      simp only [cN]
      split <;> omega
    · split
      · split
        · exact ⟨by simp only []; omega, by simp⟩
        · split
          · exact ⟨by simp only []; omega, by simp⟩
          · exact ⟨by simp only []; omega, by simp⟩
      · split
        · split
          · exact ⟨by simp only []; omega, by simp⟩
          · exact ⟨by simp only []; omega, by simp⟩
        · split
          · exact ⟨by simp only []; omega, by simp⟩
          · split
            · exact ⟨by simp only []; omega, by simp⟩
            · exact ⟨by omega, h6⟩
  exact ⟨hR.1, hR.2.1, hA.1, hR.2.2, by omega, hA.2⟩

/-- Steps of one alone. -/
def arun (n : Nat) (pv : Option Int) : Nat → Rg → Ap → Rg × Ap
  | 0, r, a => (r, a)
  | k + 1, r, a => arun n pv k (aR n pv r a) (aX n pv r a)
theorem rep_run {ad n : Nat} (pv : Option Int) (hn : 2 ≤ n) : ∀ (k : Nat) {B : Nat} {s : St} {r : Rg} {a : Ap}, Rep ad n s.xs r → Sm B n r a → B + k ≤ 1000000 →
    (run k s (toPr ad n pv a)).2 = toPr ad n pv (arun n pv k r a).2 ∧ Rep ad n (run k s (toPr ad n pv a)).1.xs (arun n pv k r a).1
  | 0, _, _, _, _, h, _, _ => ⟨rfl, h⟩
  | k + 1, B, s, r, a, h, sm, hB => by
    obtain ⟨h1, h2⟩ := rep_step pv hn h sm (by omega)
    rw [run, h1, arun]
    exact rep_run pv hn k h2 (sm.step pv) (by omega)
end Go.Proofs.Ytfnfbceblpaggaa
