/- The program's ring and the document's side by side: what is known of memory, and of what each tells. Of no function; no conditions. -/
import Derived.Test.YtfnfbceblpaggaaY4
import Derived.Test.YtfnfbceblpaggaaR6
namespace Go.Proofs.Ytfnfbceblpaggaa
open Go.RowKit

def InA (p b r np : Nat) (GP : Nat → Nat) (vP : Value) (ng : Nat) (GG : Nat → Nat) (vG : Value) (q : Nat) : Prop := q = p ∨ q = b ∨ q = r ∨ InF np GP vP q ∨ InF ng GG vG q
def InU (p' b' nu : Nat) (GU : Nat → Nat) (vU : Value) (q : Nat) : Prop := q = p' ∨ q = b' ∨ InF nu GU vU q

structure Tw (w0 : World) (p b r : Nat) (ad n : Int) (p' b' np : Nat) (GP : Nat → Nat) (vP : Value) (ng : Nat) (GG : Nat → Nat) (vG : Value) (nu : Nat) (GU : Nat → Nat) (vU : Value) (s s' : St) (fP fG : Nat → Pr) (fU : Nat → Us) (w : World) : Prop where
  a : Wd w0 p b r ad n w s np GP fP vP ng GG fG vG
  rm : Mem 62 w p' b' s'
  fu : Fam 47 49 usC w0.heap.size w nu GU fU vU
  p0 : w0.heap.size ≤ p'
  b0 : w0.heap.size ≤ b'
  au : ∀ q, InF nu GU vU q → q ≠ p' ∧ q ≠ b'
  ap : ∀ q, InA p b r np GP vP ng GG vG q → ¬ InU p' b' nu GU vU q
section
variable {w0 w w' : World} {p b r : Nat} {ad n : Int} {p' b' np : Nat} {GP : Nat → Nat} {vP : Value} {ng : Nat} {GG : Nat → Nat} {vG : Value} {nu : Nat} {GU : Nat → Nat} {vU : Value} {s s' s1 : St} {fP fG : Nat → Pr} {fU : Nat → Us}

theorem Wd.lt (H : Wd w0 p b r ad n w s np GP fP vP ng GG fG vG) {q : Nat} (h : InA p b r np GP vP ng GG vG q) : q < w.heap.size := by
  have l := H.kn.mem.lt
  rcases h with rfl | rfl | rfl | h | h
  · exact l.1
  · exact l.2
  · exact lt_of_block H.kn.ring
  · exact (H.fp.lt h).1
  · exact (H.fg.lt h).1
theorem Wd.keep (H : Wd w0 p b r ad n w s np GP fP vP ng GG fG vG) (h : ∀ q, InA p b r np GP vP ng GG vG q → w'.heap[q]? = w.heap[q]?) (hb : Below w0.heap.size w0 w') : Wd w0 p b r ad n w' s np GP fP vP ng GG fG vG :=
  { H with
    kn := { H.kn with mem := H.kn.mem.keep (h _ (Or.inl rfl)) (h _ (Or.inr (Or.inl rfl))), ring := (h _ (Or.inr (Or.inr (Or.inl rfl)))).trans H.kn.ring, bel := hb }
    fp := H.fp.keep fun q hq => h q (Or.inr (Or.inr (Or.inr (Or.inl hq))))
    fg := H.fg.keep fun q hq => h q (Or.inr (Or.inr (Or.inr (Or.inr hq)))) }
theorem Tw.ltU (H : Tw w0 p b r ad n p' b' np GP vP ng GG vG nu GU vU s s' fP fG fU w) {q : Nat} (h : InU p' b' nu GU vU q) : q < w.heap.size := by
  have l := H.rm.lt
  rcases h with rfl | rfl | h
  · exact l.1
  · exact l.2
  · exact (H.fu.lt h).1
theorem Tw.below (H : Tw w0 p b r ad n p' b' np GP vP ng GG vG nu GU vU s s' fP fG fU w) (K : Below w.heap.size w w') : Tw w0 p b r ad n p' b' np GP vP ng GG vG nu GU vU s s' fP fG fU w' :=
  { H with a := H.a.below K, rm := H.rm.below K, fu := H.fu.below K }
/-- The program's side has gone on; what it has new is new. -/
theorem Tw.prog {np1 : Nat} {GP1 : Nat → Nat} {vP1 : Value} {ng1 : Nat} {GG1 : Nat → Nat} {vG1 : Value} {fP1 fG1 : Nat → Pr} (H : Tw w0 p b r ad n p' b' np GP vP ng GG vG nu GU vU s s' fP fG fU w)
    (A : Wd w0 p b r ad n w' s1 np1 GP1 fP1 vP1 ng1 GG1 fG1 vG1) (h : ∀ q, InU p' b' nu GU vU q → w'.heap[q]? = w.heap[q]?)
    (hn : ∀ q, InA p b r np1 GP1 vP1 ng1 GG1 vG1 q → InA p b r np GP vP ng GG vG q ∨ w.heap.size ≤ q) : Tw w0 p b r ad n p' b' np1 GP1 vP1 ng1 GG1 vG1 nu GU vU s1 s' fP1 fG1 fU w' :=
  { H with
    a := A
    rm := H.rm.keep (h _ (Or.inl rfl)) (h _ (Or.inr (Or.inl rfl)))
    fu := H.fu.keep fun q hq => h q (Or.inr (Or.inr hq))
    ap := fun q hq hu => by
      rcases hn q hq with e | e
      · exact H.ap q e hu
      · have := H.ltU hu; omega }
theorem Tw.loadA (H : Tw w0 p b r ad n p' b' np GP vP ng GG vG nu GU vU s s' fP fG fU w) (K : Turns 77 p b w w' s1) : Tw w0 p b r ad n p' b' np GP vP ng GG vG nu GU vU s1 s' fP fG fU w' :=
  H.prog (H.a.load K) (fun q hq => K.2.block q (H.ltU hq) (fun e => H.ap q (Or.inl e) hq) (fun e => H.ap q (Or.inr (Or.inl e)) hq)) (fun _ h => Or.inl h)
theorem Tw.stepP (H : Tw w0 p b r ad n p' b' np GP vP ng GG vG nu GU vU s s' fP fG fU w) {i : Nat} (hi : i < np) {x : Pr} (K : Hs 87 w' p b (GP i) s1 x ∧ But3 (GP i) p b w w') : Tw w0 p b r ad n p' b' np GP vP ng GG vG nu GU vU s1 s' (put fP i x) fG fU w' :=
  H.prog (H.a.stepP hi K) (fun q hq => K.2.block q (H.ltU hq) (fun e => H.ap q (Or.inr (Or.inr (Or.inr (Or.inl (Or.inl ⟨i, hi, e⟩))))) hq) (fun e => H.ap q (Or.inl e) hq) (fun e => H.ap q (Or.inr (Or.inl e)) hq)) (fun _ h => Or.inl h)
theorem Tw.stepG (H : Tw w0 p b r ad n p' b' np GP vP ng GG vG nu GU vU s s' fP fG fU w) {i : Nat} (hi : i < ng) {x : Pr} (K : Hs 90 w' p b (GG i) s1 x ∧ But3 (GG i) p b w w') : Tw w0 p b r ad n p' b' np GP vP ng GG vG nu GU vU s1 s' fP (put fG i x) fU w' :=
  H.prog (H.a.stepG hi K) (fun q hq => K.2.block q (H.ltU hq) (fun e => H.ap q (Or.inr (Or.inr (Or.inr (Or.inr (Or.inl ⟨i, hi, e⟩))))) hq) (fun e => H.ap q (Or.inl e) hq) (fun e => H.ap q (Or.inr (Or.inl e)) hq)) (fun _ h => Or.inl h)
theorem Tw.pushP {w2 w3 : World} {g : Nat} {v' : Value} {x : Pr} (H : Tw w0 p b r ad n p' b' np GP vP ng GG vG nu GU vU s s' fP fG fU w) (K : Below w.heap.size w w2) (hg : w.heap.size ≤ g) (hW : IsPr 87 w2 g x)
    (hown : w3.ownsRow w0.heap.size 39 1 v' (np + 1) (ptrs np GP ++ [ptr g])) (hgr : w2.grownBy w3 vP.ownBlock) (hv : v'.ownBlock = vP.ownBlock ∨ v'.ownBlock = some w2.heap.size) :
    Tw w0 p b r ad n p' b' (np + 1) (put GP np g) v' ng GG vG nu GU vU s s' (put fP np x) fG fU w3 := by
  have ks := K.size
  refine H.prog (H.a.pushP K hg hW hown hgr hv) (fun q hq => ?_) (fun q hq => ?_)
  · have l := H.ltU hq
    exact (hgr.block q (by omega) (fun e => H.ap q (Or.inr (Or.inr (Or.inr (Or.inl (Or.inr e.symm))))) hq)).trans (K.block q l)
  · rcases hq with e | e | e | e | e
    · exact Or.inl (Or.inl e)
    · exact Or.inl (Or.inr (Or.inl e))
    · exact Or.inl (Or.inr (Or.inr (Or.inl e)))
    · rcases inF_push hv e with h | h | h
      · exact Or.inl (Or.inr (Or.inr (Or.inr (Or.inl h))))
      · exact Or.inr (by omega)
      · exact Or.inr (by omega)
    · exact Or.inl (Or.inr (Or.inr (Or.inr (Or.inr e))))
theorem Tw.pushG {w2 w3 : World} {g : Nat} {v' : Value} {x : Pr} (H : Tw w0 p b r ad n p' b' np GP vP ng GG vG nu GU vU s s' fP fG fU w) (K : Below w.heap.size w w2) (hg : w.heap.size ≤ g) (hW : IsPr 90 w2 g x)
    (hown : w3.ownsRow w0.heap.size 42 1 v' (ng + 1) (ptrs ng GG ++ [ptr g])) (hgr : w2.grownBy w3 vG.ownBlock) (hv : v'.ownBlock = vG.ownBlock ∨ v'.ownBlock = some w2.heap.size) :
    Tw w0 p b r ad n p' b' np GP vP (ng + 1) (put GG ng g) v' nu GU vU s s' fP (put fG ng x) fU w3 := by
  have ks := K.size
  refine H.prog (H.a.pushG K hg hW hown hgr hv) (fun q hq => ?_) (fun q hq => ?_)
  · have l := H.ltU hq
    exact (hgr.block q (by omega) (fun e => H.ap q (Or.inr (Or.inr (Or.inr (Or.inr (Or.inr e.symm))))) hq)).trans (K.block q l)
  · rcases hq with e | e | e | e | e
    · exact Or.inl (Or.inl e)
    · exact Or.inl (Or.inr (Or.inl e))
    · exact Or.inl (Or.inr (Or.inr (Or.inl e)))
    · exact Or.inl (Or.inr (Or.inr (Or.inr (Or.inl e))))
    · rcases inF_push hv e with h | h | h
      · exact Or.inl (Or.inr (Or.inr (Or.inr (Or.inr h))))
      · exact Or.inr (by omega)
      · exact Or.inr (by omega)
theorem Tw.loadU (H : Tw w0 p b r ad n p' b' np GP vP ng GG vG nu GU vU s s' fP fG fU w) (K : Turns 62 p' b' w w' s1) : Tw w0 p b r ad n p' b' np GP vP ng GG vG nu GU vU s s1 fP fG fU w' :=
  { H with
    a := H.a.keep (fun q hq => K.2.block q (H.a.lt hq) (fun e => H.ap q hq (Or.inl e)) (fun e => H.ap q hq (Or.inr (Or.inl e)))) (H.a.kn.bel.trans (K.2.below H.a.kn.bel.size H.p0 H.b0))
    rm := K.1
    fu := H.fu.keep fun q hq => K.2.block q (H.fu.lt hq).1 (H.au q hq).1 (H.au q hq).2 }
theorem Tw.stepU (H : Tw w0 p b r ad n p' b' np GP vP ng GG vG nu GU vU s s' fP fG fU w) {i : Nat} (hi : i < nu) {x : Us} (K : Rs w' p' b' (GU i) s1 x ∧ But3 (GU i) p' b' w w') : Tw w0 p b r ad n p' b' np GP vP ng GG vG nu GU vU s s1 fP fG (put fU i x) w' :=
  { H with
    a := H.a.keep (fun q hq => K.2.block q (H.a.lt hq) (fun e => H.ap q hq (Or.inr (Or.inr (Or.inl ⟨i, hi, e⟩)))) (fun e => H.ap q hq (Or.inl e)) (fun e => H.ap q hq (Or.inr (Or.inl e)))) (K.2.bel' H.a.kn.bel (H.fu.G0 i hi) H.p0 H.b0)
    rm := K.1.mem
    fu := H.fu.step hi K.1.us fun q hq hne => K.2.block q (H.fu.lt hq).1 hne (H.au q hq).1 (H.au q hq).2 }
theorem Tw.pushU {w2 w3 : World} {g : Nat} {v' : Value} {x : Us} (H : Tw w0 p b r ad n p' b' np GP vP ng GG vG nu GU vU s s' fP fG fU w) (K : Below w.heap.size w w2) (hg : w.heap.size ≤ g) (hW : IsUs w2 g x)
    (hown : w3.ownsRow w0.heap.size 47 1 v' (nu + 1) (ptrs nu GU ++ [ptr g])) (hgr : w2.grownBy w3 vU.ownBlock) (hv : v'.ownBlock = vU.ownBlock ∨ v'.ownBlock = some w2.heap.size) :
    Tw w0 p b r ad n p' b' np GP vP ng GG vG (nu + 1) (put GU nu g) v' s s' fP fG (put fU nu x) w3 := by
  have ks := K.size
  have H2 := H.below K
  have l2 := H2.rm.lt
  have lr := H.rm.lt
  have hne : ∀ q, vU.ownBlock = some q → q ≠ p' ∧ q ≠ b' := fun q e => H.au q (Or.inr e)
  refine { H with
    a := H2.a.keep (fun q hq => hgr.block q (H2.a.lt hq) (fun e => H.ap q hq (Or.inr (Or.inr (Or.inr e.symm))))) (H2.a.kn.bel.grown hgr H2.a.kn.bel.size (fun j e => (own_lt H.fu.own e).2))
    rm := H2.rm.keep (hgr.block _ l2.1 (fun e => (hne _ e.symm).1 rfl)) (hgr.block _ l2.2 (fun e => (hne _ e.symm).2 rfl))
    fu := H.fu.push K hg H.a.kn.bel.size hW hown hgr hv
    au := fun q hq => ?_
    ap := fun q hq hu => ?_ }
  · rcases inF_push hv hq with h | h | h
    · exact H.au q h
    · omega
    · omega
  · have la := H.a.lt hq
    rcases hu with h | h | h
    · exact H.ap q hq (Or.inl h)
    · exact H.ap q hq (Or.inr (Or.inl h))
    · rcases inF_push hv h with h | h | h
      · exact H.ap q hq (Or.inr (Or.inr h))
      · omega
      · omega
theorem Tw.first {G1 G2 G3 : Nat → Nat} {f1 f2 : Nat → Pr} {f3 : Nat → Us} (H : Kn w0 p b r ad n w s) (hM : Mem 62 w p' b' s') (h0 : w0.heap.size ≤ p') (h1 : w0.heap.size ≤ b') (hp : p' ≠ p ∧ p' ≠ b ∧ p' ≠ r) (hb : b' ≠ p ∧ b' ≠ b ∧ b' ≠ r) :
    Tw w0 p b r ad n p' b' 0 G1 (.slice none 0 0) 0 G2 (.slice none 0 0) 0 G3 (.slice none 0 0) s s' f1 f2 f3 w := by
  have no : ∀ G q, ¬ InF 0 G (.slice none 0 0) q := by
    rintro G q (⟨i, hi, _⟩ | h)
    · omega
    · cases h
  refine ⟨Wd.first2 H _ _ _ _, hM, Fam.nil .., h0, h1, fun q hq => absurd hq (no _ q), fun q hq hu => ?_⟩
  have e1 : q = p ∨ q = b ∨ q = r := by
    rcases hq with e | e | e | e | e
    · exact Or.inl e
    · exact Or.inr (Or.inl e)
    · exact Or.inr (Or.inr e)
    · exact absurd e (no _ q)
    · exact absurd e (no _ q)
  rcases hu with e | e | e
  · subst e; omega
  · subst e; omega
  · exact absurd e (no _ q)
theorem Tw.rs (H : Tw w0 p b r ad n p' b' np GP vP ng GG vG nu GU vU s s' fP fG fU w) {i : Nat} (hi : i < nu) : Rs w p' b' (GU i) s' (fU i) :=
  ⟨H.rm, H.fu.pr i hi, (H.au _ (Or.inl ⟨i, hi, rfl⟩)).1, (H.au _ (Or.inl ⟨i, hi, rfl⟩)).2⟩
end

theorem storeT_len (s : St) (a v : Int) : (storeT s a v).xs.length = s.xs.length := by unfold storeT; split <;> simp
theorem loadT_len (s : St) (a : Int) : (loadT s a).xs.length = s.xs.length := by unfold loadT; split <;> rfl
theorem casT_len (s : St) (a o v : Int) : (casT s a o v).xs.length = s.xs.length := by
  unfold casT
  repeat' split
  all_goals simp
theorem pT_len (s : St) (x : Pr) : (pT s x).xs.length = s.xs.length := by
  unfold pT
  split
  · rfl
  · generalize pNext x = a
    unfold doT
    split
    · exact loadT_len _ _
    · split
      · exact storeT_len _ _ _
      · split
        · exact casT_len _ _ _ _
        · split
          · exact storeT_len _ _ _
          · rfl
theorem initR_len : ∀ (l : List Int) (s : St) (a : Int), (initR s a l).1.xs.length = s.xs.length
  | [], s, a => rfl
  | v :: l, s, a => by
    rw [initR]
    split
    · rw [initR_len l, storeT_len]
    · exact storeT_len _ _ _
theorem initR_sok : ∀ (l : List Int) (s : St) (a : Int), SOk s → (∀ v ∈ l, 0 ≤ v ∧ v ≤ 18446744073709551615) → SOk (initR s a l).1
  | [], s, a, h, _ => h
  | v :: l, s, a, h, hl => by
    rw [initR]
    split
    · exact initR_sok l _ _ (h.store a (hl v (by simp))) (fun u hu => hl u (by simp [hu]))
    · exact h.store a (hl v (by simp))
theorem pX_pv (s : St) (x : Pr) : (pX s x).pv = x.pv := by
  unfold pX
  split
  · rfl
  · unfold pGo
    repeat' split
    all_goals rfl
theorem sok_zero (L : Nat) : SOk ⟨List.replicate L 0, 0, 0⟩ := ⟨fun i => by
  by_cases h : i < L
  · simp [List.getD, h]
  · simp [List.getD, h]⟩
theorem emp_in (n : Nat) (hn : n ≤ 64) : ∀ v ∈ emp n, 0 ≤ v ∧ v ≤ 18446744073709551615 := by
  intro v hv
  obtain ⟨i, hi, e⟩ := List.getElem_of_mem hv
  have := emp_bounds n i
  rw [show (emp n).getD i 0 = v by simp [List.getD, hi, e]] at this
  omega

/-- As many words as L; who pushes or pops is as the document's. -/
structure Pu (L np ng : Nat) (s : St) (fP fG : Nat → Pr) (fU : Nat → Us) : Prop where
  len : s.xs.length = L
  so : SOk s
  lp : ∀ k, k < np → Lk (fP k) (fU k) ∧ YOk (fP k)
  lg : ∀ k, k < ng → Lk (fG k) (fU (np + k)) ∧ YOk (fG k) ∧ (fG k).pv = none
theorem Pu.stepP {L np ng : Nat} {s : St} {fP fG : Nat → Pr} {fU : Nat → Us} (H : Pu L np ng s fP fG fU) {i : Nat} (hi : i < np) :
    Pu L np ng (pT s (fP i)) (put fP i (pX s (fP i))) fG (put fU i (uX s (fU i))) := by
  obtain ⟨hl, hy⟩ := H.lp i hi
  refine ⟨(pT_len _ _).trans H.len, H.so.next hy, fun k hk => ?_, fun k hk => ?_⟩
  · by_cases e : k = i
    · subst e; rw [put_at, put_at]; exact ⟨hl.step hy.xo s, hy.next H.so⟩
    · rw [put_ne _ _ e, put_ne _ _ e]; exact H.lp k hk
  · rw [put_ne _ _ (by omega)]; exact H.lg k hk
theorem Pu.stepG {L np ng : Nat} {s : St} {fP fG : Nat → Pr} {fU : Nat → Us} (H : Pu L np ng s fP fG fU) {i : Nat} (hi : i < ng) :
    Pu L np ng (pT s (fG i)) fP (put fG i (pX s (fG i))) (put fU (np + i) (uX s (fU (np + i)))) := by
  obtain ⟨hl, hy, hp⟩ := H.lg i hi
  refine ⟨(pT_len _ _).trans H.len, H.so.next hy, fun k hk => ?_, fun k hk => ?_⟩
  · rw [put_ne _ _ (by omega)]; exact H.lp k hk
  · by_cases e : k = i
    · subst e; rw [put_at, put_at]; exact ⟨hl.step hy.xo s, hy.next H.so, (pX_pv _ _).trans hp⟩
    · rw [put_ne _ _ e, put_ne _ _ (by omega)]; exact H.lg k hk
theorem Pu.pushP {L np : Nat} {s : St} {fP fG : Nat → Pr} {fU : Nat → Us} (H : Pu L np 0 s fP fG fU) {x : Pr} {u : Us} (h : Lk x u) (hy : YOk x) : Pu L (np + 1) 0 s (put fP np x) fG (put fU np u) :=
  ⟨H.len, H.so, fun k hk => by
    by_cases e : k = np
    · subst e; rw [put_at, put_at]; exact ⟨h, hy⟩
    · rw [put_ne _ _ e, put_ne _ _ e]; exact H.lp k (by omega), fun k hk => absurd hk (by omega)⟩
theorem Pu.pushG {L np ng : Nat} {s : St} {fP fG : Nat → Pr} {fU : Nat → Us} (H : Pu L np ng s fP fG fU) {x : Pr} {u : Us} (h : Lk x u) (hy : YOk x) (hp : x.pv = none) : Pu L np (ng + 1) s fP (put fG ng x) (put fU (np + ng) u) :=
  ⟨H.len, H.so, fun k hk => by rw [put_ne _ _ (by omega)]; exact H.lp k hk, fun k hk => by
    by_cases e : k = ng
    · subst e; rw [put_at, put_at]; exact ⟨h, hy, hp⟩
    · rw [put_ne _ _ e, put_ne _ _ (by omega)]; exact H.lg k (by omega)⟩
theorem info47 : ∃ i, Try.prog.info? 47 = some i ∧ i.zero = some (.pointer none) ∧ i.size = 1 ∧ i.bytes = 8 := by
  have h : (Try.prog.info? 47).map (fun i => (i.zero, i.size, i.bytes)) = some (some (.pointer none), 1, 8) := by kernel_rfl
  obtain ⟨i, hi, hzz⟩ := Option.map_eq_some_iff.1 h
  simp only [Prod.mk.injEq] at hzz
  exact ⟨i, hi, hzz.1, hzz.2.1, hzz.2.2⟩
end Go.Proofs.Ytfnfbceblpaggaa
