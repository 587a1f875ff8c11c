/- A step of one who pushes or pops keeps what is so; how often a value was popped. Of no function; no conditions. -/
import Derived.Test.YtfnfbceblpaggaaY2
namespace Go.Proofs.Ytfnfbceblpaggaa
open Go.RowKit

section
variable {n np ng : Nat} {r : Rg} {P G : Nat → Ap} {D E : Nat → Bool} {val : Nat → Nat}
theorem OI.stepP (hn : 2 ≤ n) (H : OI n np ng r P G D E val) {k : Nat} (hk : k < np) (ht : (P k).tn ≤ 5) :
    ∃ D' val', OI n np ng (aR n (some ((100 + k : Nat) : Int)) r (P k)) (put P k (aX n (some ((100 + k : Nat) : Int)) r (P k))) G D' E val' := by
  obtain ⟨a, ha⟩ : ∃ a, P k = a := ⟨_, rfl⟩
  have hw : a.wh = true → a.tn = 5 := fun h => by have := H.p5 k hk (by rw [ha]; exact h); rwa [ha] at this
  have hcl : a.tn ≤ 2 → ¬ Cl (P k) := by
    rw [ha]
    rintro h (c | c | c)
    · omega
    · omega
    · have := hw c; omega
  rw [ha]
  rw [ha] at ht
  obtain ⟨tn, ps, mv, wh⟩ := a
  simp only [] at ht hw hcl
  obtain rfl | rfl | rfl | rfl | rfl | rfl : tn = 0 ∨ tn = 1 ∨ tn = 2 ∨ tn = 3 ∨ tn = 4 ∨ tn = 5 := by omega
  · have hwf : wh = false := by cases wh with | false => rfl | true => exact absurd (hw rfl) (by omega)
    subst hwf
    refine ⟨D, val, ?_⟩
    have e1 : aX n (some ((100 + k : Nat) : Int)) r ⟨0, ps, mv, false⟩ = ⟨1, r.i, mv, false⟩ := by simp [aX, cN]
    have e2 : aR n (some ((100 + k : Nat) : Int)) r ⟨0, ps, mv, false⟩ = r := by simp [aR]
    rw [e1, e2]
    exact H.turnP hk (hcl (by omega)) (by simp [Cl]) (fun _ => Nat.le_refl _) (fun h => by simp at h)
  · have hwf : wh = false := by cases wh with | false => rfl | true => exact absurd (hw rfl) (by omega)
    subst hwf
    refine ⟨D, val, ?_⟩
    have e1 : aX n (some ((100 + k : Nat) : Int)) r ⟨1, ps, mv, false⟩ = if r.T (ps % n) = (ps : Int) then ⟨2, ps, mv, false⟩ else if r.T (ps % n) < (ps : Int) then ⟨5, ps, mv, false⟩ else ⟨0, ps, mv, false⟩ := rfl
    have e2 : aR n (some ((100 + k : Nat) : Int)) r ⟨1, ps, mv, false⟩ = r := by simp [aR]
    have hps : ps ≤ r.i := by have := H.p1 k hk (by rw [ha]; exact Or.inl rfl); rwa [ha] at this
    rw [e1, e2]
    split
    · rename_i hT
      exact H.turnP hk (hcl (by omega)) (by simp [Cl]) (fun _ => hps) (fun _ h => by simp only [] at h; rw [← h]; exact hT)
    · split
      · exact H.turnP hk (hcl (by omega)) (by simp [Cl]) (fun h => by simp at h) (fun h => by simp at h)
      · exact H.turnP hk (hcl (by omega)) (by simp [Cl]) (fun h => by simp at h) (fun h => by simp at h)
  · have hwf : wh = false := by cases wh with | false => rfl | true => exact absurd (hw rfl) (by omega)
    subst hwf
    have e1 : aX n (some ((100 + k : Nat) : Int)) r ⟨2, ps, mv, false⟩ = if r.i = ps then ⟨3, ps, mv, false⟩ else ⟨0, ps, mv, false⟩ := rfl
    have e2 : aR n (some ((100 + k : Nat) : Int)) r ⟨2, ps, mv, false⟩ = if r.i = ps then { r with i := ps + 1 } else r := rfl
    rw [e1, e2]
    by_cases q : r.i = ps
    · rw [if_pos q, if_pos q, ← q]
      exact ⟨D, _, H.claimP hn hk (by rw [ha]) (by rw [ha]; exact q.symm) mv⟩
    · rw [if_neg q, if_neg q]
      exact ⟨D, val, H.turnP hk (hcl (by omega)) (by simp [Cl]) (fun h => by simp at h) (fun h => by simp at h)⟩
  · have e1 : aX n (some ((100 + k : Nat) : Int)) r ⟨3, ps, mv, wh⟩ = ⟨4, ps, 0, wh⟩ := by simp [aX, mvV]
    have e2 : aR n (some ((100 + k : Nat) : Int)) r ⟨3, ps, mv, wh⟩ = { r with V := upd r.V (ps % n) ((100 + k : Nat) : Int) } := by simp [aR, mvR]
    rw [e1, e2]
    have := H.layP hk (by rw [ha]) 0
    rw [ha] at this
    exact ⟨D, val, this⟩
  · have e1 : aX n (some ((100 + k : Nat) : Int)) r ⟨4, ps, mv, wh⟩ = ⟨5, ps, mv, true⟩ := by simp [aX]
    have e2 : aR n (some ((100 + k : Nat) : Int)) r ⟨4, ps, mv, wh⟩ = { r with T := upd r.T (ps % n) ((ps + 1 : Nat) : Int) } := by simp [aR, lfN]
    rw [e1, e2]
    have := H.doneP hn hk (by rw [ha]) mv
    rw [ha] at this
    exact ⟨_, val, this⟩
  · have e1 : aX n (some ((100 + k : Nat) : Int)) r ⟨5, ps, mv, wh⟩ = ⟨5, ps, mv, wh⟩ := by simp [aX]
    have e2 : aR n (some ((100 + k : Nat) : Int)) r ⟨5, ps, mv, wh⟩ = r := by simp [aR]
    have e3 : put P k ⟨5, ps, mv, wh⟩ = P := by
      funext j
      by_cases e : j = k
      · rw [e, put_at, ha]
      · rw [put_ne _ _ e]
    rw [e1, e2, e3]
    exact ⟨D, val, H⟩
theorem OI.stepG (hn : 2 ≤ n) (H : OI n np ng r P G D E val) {k : Nat} (hk : k < ng) (ht : (G k).tn ≤ 5) :
    ∃ E', OI n np ng (aR n none r (G k)) P (put G k (aX n none r (G k))) D E' val := by
  obtain ⟨a, ha⟩ : ∃ a, G k = a := ⟨_, rfl⟩
  have hw : a.wh = true → a.tn = 5 := fun h => by have := (H.g5 k hk (by rw [ha]; exact h)).1; rwa [ha] at this
  rw [ha]
  rw [ha] at ht
  obtain ⟨tn, ps, mv, wh⟩ := a
  simp only [] at ht hw
  obtain rfl | rfl | rfl | rfl | rfl | rfl : tn = 0 ∨ tn = 1 ∨ tn = 2 ∨ tn = 3 ∨ tn = 4 ∨ tn = 5 := by omega
  · have hwf : wh = false := by cases wh with | false => rfl | true => exact absurd (hw rfl) (by omega)
    subst hwf
    refine ⟨E, ?_⟩
    have e1 : aX n none r ⟨0, ps, mv, false⟩ = ⟨1, r.o, mv, false⟩ := by simp [aX, cN]
    have e2 : aR n none r ⟨0, ps, mv, false⟩ = r := by simp [aR]
    rw [e1, e2]
    exact H.turnG (by simp [Cl]) (fun _ => Nat.le_refl _) (fun h => by simp at h)
  · have hwf : wh = false := by cases wh with | false => rfl | true => exact absurd (hw rfl) (by omega)
    subst hwf
    refine ⟨E, ?_⟩
    have e1 : aX n none r ⟨1, ps, mv, false⟩ = if r.T (ps % n) = ((ps + 1 : Nat) : Int) then ⟨2, ps, mv, false⟩ else if r.T (ps % n) < ((ps + 1 : Nat) : Int) then ⟨5, ps, mv, false⟩ else ⟨0, ps, mv, false⟩ := rfl
    have e2 : aR n none r ⟨1, ps, mv, false⟩ = r := by simp [aR]
    have hps : ps ≤ r.o := by have := H.g1 k hk (by rw [ha]; exact Or.inl rfl); rwa [ha] at this
    rw [e1, e2]
    split
    · rename_i hT
      exact H.turnG (by simp [Cl]) (fun _ => hps) (fun _ h => by simp only [] at h; rw [← h]; exact hT)
    · split
      · exact H.turnG (by simp [Cl]) (fun h => by simp at h) (fun h => by simp at h)
      · exact H.turnG (by simp [Cl]) (fun h => by simp at h) (fun h => by simp at h)
  · have hwf : wh = false := by cases wh with | false => rfl | true => exact absurd (hw rfl) (by omega)
    subst hwf
    have e1 : aX n none r ⟨2, ps, mv, false⟩ = if r.o = ps then ⟨3, ps, mv, false⟩ else ⟨0, ps, mv, false⟩ := rfl
    have e2 : aR n none r ⟨2, ps, mv, false⟩ = if r.o = ps then { r with o := ps + 1 } else r := rfl
    rw [e1, e2]
    by_cases q : r.o = ps
    · rw [if_pos q, if_pos q, ← q]
      exact ⟨E, H.claimG hn hk (by rw [ha]) (by rw [ha]; exact q.symm) mv⟩
    · rw [if_neg q, if_neg q]
      exact ⟨E, H.turnG (by simp [Cl]) (fun h => by simp at h) (fun h => by simp at h)⟩
  · have e1 : aX n none r ⟨3, ps, mv, wh⟩ = ⟨4, ps, r.V (ps % n), wh⟩ := by simp [aX, mvV]
    have e2 : aR n none r ⟨3, ps, mv, wh⟩ = r := by simp [aR, mvR]
    rw [e1, e2]
    have := H.takeG hk (by rw [ha])
    rw [ha] at this
    exact ⟨E, this⟩
  · have e1 : aX n none r ⟨4, ps, mv, wh⟩ = ⟨5, ps, mv, true⟩ := by simp [aX]
    have e2 : aR n none r ⟨4, ps, mv, wh⟩ = { r with T := upd r.T (ps % n) ((ps + n : Nat) : Int) } := by simp [aR, lfN]
    rw [e1, e2]
    have := H.doneG hn hk (by rw [ha])
    rw [ha] at this
    exact ⟨_, this⟩
  · have e1 : aX n none r ⟨5, ps, mv, wh⟩ = ⟨5, ps, mv, wh⟩ := by simp [aX]
    have e2 : aR n none r ⟨5, ps, mv, wh⟩ = r := by simp [aR]
    have e3 : put G k ⟨5, ps, mv, wh⟩ = G := by
      funext j
      by_cases e : j = k
      · rw [e, put_at, ha]
      · rw [put_ne _ _ e]
    rw [e1, e2, e3]
    exact ⟨E, H⟩

/-- How often the value of the one with the number k was popped, by the first j who pop. -/
def hadN (G : Nat → Ap) (val : Nat → Nat) : Nat → Nat → Nat
  | 0, _ => 0
  | j + 1, k => hadN G val j k + if (G j).wh = true ∧ val (G j).ps = k then 1 else 0
theorem had_some {k : Nat} : ∀ {j : Nat}, 0 < hadN G val j k → ∃ i, i < j ∧ (G i).wh = true ∧ val (G i).ps = k
  | 0, h => by simp [hadN] at h
  | j + 1, h => by
    rw [hadN] at h
    by_cases q : (G j).wh = true ∧ val (G j).ps = k
    · exact ⟨j, by omega, q⟩
    · rw [if_neg q] at h
      obtain ⟨i, h1, h2⟩ := had_some (j := j) (by omega)
      exact ⟨i, by omega, h2⟩
theorem OI.had_one (H : OI n np ng r P G D E val) {k : Nat} : ∀ {j : Nat}, j ≤ ng → hadN G val j k ≤ 1
  | 0, _ => by simp [hadN]
  | j + 1, hj => by
    rw [hadN]
    by_cases q : (G j).wh = true ∧ val (G j).ps = k
    · rw [if_pos q]
      have : hadN G val j k = 0 := by
        by_cases h : 0 < hadN G val j k
        · obtain ⟨i, h1, h2, h3⟩ := had_some h
          have hle := H.le
          have a1 := (H.g5 i (by omega) h2).2
          have a2 := (H.g5 j (by omega) q.1).2
          have b1 := (H.own _ (show (G i).ps < r.i by omega)).2.2
          have b2 := (H.own _ (show (G j).ps < r.i by omega)).2.2
          rw [h3] at b1
          rw [q.2] at b2
          exact absurd (b1.symm.trans b2) (H.gd i j (by omega) (by omega) (by omega) (Or.inr (Or.inr h2)) (Or.inr (Or.inr q.1)))
        · omega
      omega
    · rw [if_neg q]
      have := H.had_one (k := k) (j := j) (by omega)
      omega
/-- What is popped was pushed by somebody. -/
theorem OI.got (H : OI n np ng r P G D E val) {j : Nat} (hj : j < ng) (hw : (G j).wh = true) : (G j).mv = ((100 + val (G j).ps : Nat) : Int) ∧ val (G j).ps < np := by
  have hle := H.le
  have := (H.g5 j hj hw).2
  exact ⟨H.g4 j hj (Or.inr hw), (H.own _ (by omega)).1⟩
/-- Whose value is popped, that one has pushed it, if it is done. -/
theorem OI.whose (H : OI n np ng r P G D E val) {k : Nat} (h : 0 < hadN G val ng k) (hd : (P k).tn = 5) : (P k).wh = true := by
  obtain ⟨i, h1, h2, h3⟩ := had_some h
  have hle := H.le
  have a1 := (H.g5 i h1 h2).2
  have := (H.own _ (show (G i).ps < r.i by omega)).2.1
  rw [h3] at this
  rcases this with h | h | h
  · omega
  · omega
  · exact h
end

/-- All of it, in memory. -/
structure Oe (w0 : World) (p b r n np : Nat) (GP : Nat → Nat) (vP : Value) (ng : Nat) (GG : Nat → Nat) (vG : Value) (c : Nat) (w : World) (s : St) (R : Rg) (P G : Nat → Ap) (D E : Nat → Bool) (val : Nat → Nat) : Prop where
  wd : Wd w0 p b r 2 n w s np GP (fun k => toPr 2 n (some ((100 + k : Nat) : Int)) (P k)) vP ng GG (fun j => toPr 2 n none (G j)) vG
  rep : Rep 2 n s.xs R
  oi : OI n np ng R P G D E val
  so : SOk s
  co : Cnt s (1000 + 10 * c)
  ri : R.i ≤ 100 + c
  rt : ∀ j, 0 ≤ R.T j ∧ R.T j ≤ 2 * ((100 + c : Nat) : Int)
  pp : ∀ k, k < np → (P k).ps ≤ 100 + c ∧ (P k).tn ≤ 5
  pg : ∀ k, k < ng → (G k).ps ≤ 100 + c ∧ (G k).tn ≤ 5
section
variable {w0 w w' : World} {p b r n np : Nat} {GP : Nat → Nat} {vP : Value} {ng : Nat} {GG : Nat → Nat} {vG : Value} {c : Nat} {s : St} {R : Rg} {P G : Nat → Ap} {D E : Nat → Bool} {val : Nat → Nat}
theorem Oe.below (H : Oe w0 p b r n np GP vP ng GG vG c w s R P G D E val) (K : Below w.heap.size w w') : Oe w0 p b r n np GP vP ng GG vG c w' s R P G D E val := { H with wd := H.wd.below K }
theorem toPr_ok {pv : Option Int} {a : Ap} (hn : 2 ≤ n) (hn2 : n ≤ 64) (h1 : a.ps ≤ 1000000) (h2 : a.tn ≤ 5) (hv : ∀ v, pv = some v → 0 ≤ v ∧ v ≤ 18446744073709551615) : YOk (toPr 2 n pv a) :=
  ⟨⟨⟨⟨by simp, by simp, by simp; omega, by simp; omega⟩, by simp, by simp; omega⟩, by simp, by simp; omega⟩, hv⟩
theorem Oe.smP (H : Oe w0 p b r n np GP vP ng GG vG c w s R P G D E val) (hn2 : n ≤ 64) {k : Nat} (hk : k < np) : Sm (100 + c) n R (P k) :=
  ⟨H.ri, by have := H.oi.le; have := H.ri; omega, (H.pp k hk).1, H.rt, by omega, (H.pp k hk).2⟩
theorem Oe.smG (H : Oe w0 p b r n np GP vP ng GG vG c w s R P G D E val) (hn2 : n ≤ 64) {k : Nat} (hk : k < ng) : Sm (100 + c) n R (G k) :=
  ⟨H.ri, by have := H.oi.le; have := H.ri; omega, (H.pg k hk).1, H.rt, by omega, (H.pg k hk).2⟩
theorem Oe.yP (H : Oe w0 p b r n np GP vP ng GG vG c w s R P G D E val) (hn : 2 ≤ n) (hn2 : n ≤ 64) (hc : c ≤ 10000) (hp : np ≤ 1000) {k : Nat} (hk : k < np) : YOk (toPr 2 n (some ((100 + k : Nat) : Int)) (P k)) :=
  toPr_ok hn hn2 (by have := (H.pp k hk).1; omega) (H.pp k hk).2 (fun v e => by obtain rfl := Option.some.inj e; omega)
theorem Oe.yG (H : Oe w0 p b r n np GP vP ng GG vG c w s R P G D E val) (hn : 2 ≤ n) (hn2 : n ≤ 64) (hc : c ≤ 10000) {k : Nat} (hk : k < ng) : YOk (toPr 2 n none (G k)) :=
  toPr_ok hn hn2 (by have := (H.pg k hk).1; omega) (H.pg k hk).2 (fun v e => by cases e)
theorem put_fun {α β : Type} (f : Nat → α → β) (P : Nat → α) (k : Nat) (a : α) : put (fun j => f j (P j)) k (f k a) = fun j => f j (put P k a j) := by
  funext j
  by_cases e : j = k
  · subst e; rw [put_at, put_at]
  · rw [put_ne _ _ e, put_ne _ _ e]
theorem Oe.stepP (H : Oe w0 p b r n np GP vP ng GG vG c w s R P G D E val) (hn : 2 ≤ n) (hn2 : n ≤ 64) (hc : c ≤ 10000) (hp : np ≤ 1000) {k : Nat} (hk : k < np)
    (K : Hs 87 w' p b (GP k) (pT s (toPr 2 n (some ((100 + k : Nat) : Int)) (P k))) (pX s (toPr 2 n (some ((100 + k : Nat) : Int)) (P k))) ∧ But3 (GP k) p b w w') :
    ∃ s' R' P' D' val', Oe w0 p b r n np GP vP ng GG vG (c + 1) w' s' R' P' G D' E val' := by
  have sm := H.smP hn2 hk
  obtain ⟨e1, e2⟩ := rep_step (some ((100 + k : Nat) : Int)) hn H.rep sm (by omega)
  obtain ⟨D', val', hoi⟩ := H.oi.stepP hn hk (H.pp k hk).2
  have sm' := sm.step (some ((100 + k : Nat) : Int))
  have hy := H.yP hn hn2 hc hp hk
  have hW := H.wd.stepP hk K
  rw [show put (fun k => toPr 2 n (some ((100 + k : Nat) : Int)) (P k)) k (pX s (toPr 2 n (some ((100 + k : Nat) : Int)) (P k))) = fun j => toPr 2 n (some ((100 + j : Nat) : Int)) (put P k (aX n (some ((100 + k : Nat) : Int)) R (P k)) j) by
    have e1' : pX s (toPr 2 n (some ((100 + k : Nat) : Int)) (P k)) = toPr 2 n (some ((100 + k : Nat) : Int)) (aX n (some ((100 + k : Nat) : Int)) R (P k)) := e1
    rw [e1']; exact put_fun (fun j a => toPr 2 n (some ((100 + j : Nat) : Int)) a) P k _] at hW
  refine ⟨_, _, _, D', val', hW, e2, hoi, H.so.next hy, (H.co.next _).mono (by omega), by have := sm'.i; omega, sm'.t, fun j hj => ?_, fun j hj => by have := H.pg j hj; exact ⟨by omega, this.2⟩⟩
  by_cases e : j = k
  · subst e; rw [put_at]; exact ⟨sm'.p, sm'.tn⟩
  · rw [put_ne _ _ e]; have := H.pp j hj; exact ⟨by omega, this.2⟩
theorem Oe.stepG (H : Oe w0 p b r n np GP vP ng GG vG c w s R P G D E val) (hn : 2 ≤ n) (hn2 : n ≤ 64) (hc : c ≤ 10000) {k : Nat} (hk : k < ng)
    (K : Hs 90 w' p b (GG k) (pT s (toPr 2 n none (G k))) (pX s (toPr 2 n none (G k))) ∧ But3 (GG k) p b w w') :
    ∃ s' R' G' E', Oe w0 p b r n np GP vP ng GG vG (c + 1) w' s' R' P G' D E' val := by
  have sm := H.smG hn2 hk
  obtain ⟨e1, e2⟩ := rep_step none hn H.rep sm (by omega)
  obtain ⟨E', hoi⟩ := H.oi.stepG hn hk (H.pg k hk).2
  have sm' := sm.step none
  have hy := H.yG hn hn2 hc hk
  have hW := H.wd.stepG hk K
  rw [show put (fun j => toPr 2 n none (G j)) k (pX s (toPr 2 n none (G k))) = fun j => toPr 2 n none (put G k (aX n none R (G k)) j) by
    have e1' : pX s (toPr 2 n none (G k)) = toPr 2 n none (aX n none R (G k)) := e1
    rw [e1']; exact put_fun (fun _ a => toPr 2 n none a) G k _] at hW
  refine ⟨_, _, _, E', hW, e2, hoi, H.so.next hy, (H.co.next _).mono (by omega), by have := sm'.i; omega, sm'.t, fun j hj => by have := H.pp j hj; exact ⟨by omega, this.2⟩, fun j hj => ?_⟩
  by_cases e : j = k
  · subst e; rw [put_at]; exact ⟨sm'.p, sm'.tn⟩
  · rw [put_ne _ _ e]; have := H.pg j hj; exact ⟨by omega, this.2⟩
theorem Oe.load (H : Oe w0 p b r n np GP vP ng GG vG c w s R P G D E val) (a : Nat) (ha : a < s.xs.length) (K : Turns 77 p b w w' (loadT s a)) : Oe w0 p b r n np GP vP ng GG vG (c + 1) w' (loadT s a) R P G D E val :=
  { H with
    wd := H.wd.load K
    rep := by rw [loadT_nat ha]; exact H.rep
    so := H.so.loadT a
    co := (H.co.load a).mono (by omega)
    ri := by have := H.ri; omega
    rt := fun j => by have := H.rt j; omega
    pp := fun k hk => by have := H.pp k hk; exact ⟨by omega, this.2⟩
    pg := fun k hk => by have := H.pg k hk; exact ⟨by omega, this.2⟩ }
end
end Go.Proofs.Ytfnfbceblpaggaa
