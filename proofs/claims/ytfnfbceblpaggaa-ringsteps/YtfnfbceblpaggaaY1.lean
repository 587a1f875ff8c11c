/- Many of one kind, in a slice that is lengthened one by one: what is known of memory. Of no function; no conditions. -/
import Derived.Test.YtfnfbceblpaggaaF1
import Derived.Deep.AppendLies
namespace Go.Proofs.Ytfnfbceblpaggaa
open Go.RowKit

def put {α : Type} (f : Nat → α) (i : Nat) (x : α) : Nat → α := fun j => if j = i then x else f j
theorem put_at {α : Type} (f : Nat → α) (i : Nat) (x : α) : put f i x i = x := by simp [put]
theorem put_ne {α : Type} (f : Nat → α) {i j : Nat} (x : α) (h : j ≠ i) : put f i x j = f j := by simp [put, h]
def ptr (g : Nat) : Value := .pointer (some ⟨g, 0, none⟩)
def ptrs (k : Nat) (G : Nat → Nat) : List Value := (List.range k).map fun i => ptr (G i)
theorem ptrs_len (k : Nat) (G : Nat → Nat) : (ptrs k G).length = k := by simp [ptrs]
theorem ptrs_snoc (k : Nat) (G : Nat → Nat) (g : Nat) : ptrs (k + 1) (put G k g) = ptrs k G ++ [ptr g] := by
  unfold ptrs
  rw [List.range_succ, List.map_append]
  congr 1
  · apply List.map_congr_left
    intro i hi
    have : i ≠ k := by have := List.mem_range.1 hi; omega
    rw [put_ne _ _ this]
  · simp [put_at]

/-- k blocks of type t, of the cells c (f i); a slice v of pointers (of type e) to them. -/
structure Fam {α : Type} (e t : TypeId) (c : α → Array Value) (base : Nat) (w : World) (k : Nat) (G : Nat → Nat) (f : Nat → α) (v : Value) : Prop where
  pr : ∀ i, i < k → w.heap[G i]? = some (.cells (c (f i)) t (0, 0))
  own : w.ownsRow base e 1 v k (ptrs k G)
  G0 : ∀ i, i < k → base ≤ G i
  inj : ∀ i j, i < k → j < k → i ≠ j → G i ≠ G j
  vG : ∀ i, i < k → v.ownBlock ≠ some (G i)
/-- The blocks of all that. -/
def InF (k : Nat) (G : Nat → Nat) (v : Value) (q : Nat) : Prop := (∃ i, i < k ∧ q = G i) ∨ v.ownBlock = some q

theorem own_keep {t : TypeId} {w w' : World} {base : Nat} {v : Value} {k : Nat} {xs : List Value} (h : w.ownsRow base t 1 v k xs) (e : ∀ q, v.ownBlock = some q → w'.heap[q]? = w.heap[q]?) : w'.ownsRow base t 1 v k xs := by
  obtain ⟨h1, h2 | ⟨g, cap, cur, rfl, hb, hh, h3⟩⟩ := h
  · exact ⟨h1, Or.inl h2⟩
  · exact ⟨h1, Or.inr ⟨g, cap, cur, rfl, hb, (e g rfl).trans hh, h3⟩⟩
theorem own_lt {t : TypeId} {w : World} {base : Nat} {v : Value} {k : Nat} {xs : List Value} (h : w.ownsRow base t 1 v k xs) {q : Nat} (hq : v.ownBlock = some q) : q < w.heap.size ∧ base ≤ q := by
  obtain ⟨_, ⟨rfl, _⟩ | ⟨g, cap, cur, rfl, hb, hh, _⟩⟩ := h
  · cases hq
  · obtain rfl : g = q := by simpa [Value.ownBlock] using hq
    exact ⟨lt_of_block hh, hb⟩
section
variable {α : Type} {e t : TypeId} {c : α → Array Value} {base : Nat} {w w' : World} {k : Nat} {G : Nat → Nat} {f : Nat → α} {v : Value}
theorem Fam.lt (H : Fam e t c base w k G f v) {q : Nat} (h : InF k G v q) : q < w.heap.size ∧ base ≤ q := by
  rcases h with ⟨i, hi, rfl⟩ | h
  · exact ⟨lt_of_block (H.pr i hi), H.G0 i hi⟩
  · exact own_lt H.own h
theorem Fam.keep (H : Fam e t c base w k G f v) (h : ∀ q, InF k G v q → w'.heap[q]? = w.heap[q]?) : Fam e t c base w' k G f v :=
  { H with pr := fun i hi => (h _ (Or.inl ⟨i, hi, rfl⟩)).trans (H.pr i hi), own := own_keep H.own (fun q hq => h q (Or.inr hq)) }
theorem Fam.below (H : Fam e t c base w k G f v) (K : Below w.heap.size w w') : Fam e t c base w' k G f v :=
  H.keep fun _ hq => K.block _ (H.lt hq).1
theorem Fam.step (H : Fam e t c base w k G f v) {i : Nat} (hi : i < k) {x : α} (hx : w'.heap[G i]? = some (.cells (c x) t (0, 0))) (h : ∀ q, InF k G v q → q ≠ G i → w'.heap[q]? = w.heap[q]?) : Fam e t c base w' k G (put f i x) v :=
  { H with
    pr := fun j hj => by
      by_cases q : j = i
      · subst q; rw [put_at]; exact hx
      · rw [put_ne _ _ q]; exact (h _ (Or.inl ⟨j, hj, rfl⟩) (H.inj j i hj hi q)).trans (H.pr j hj)
    own := own_keep H.own (fun q hq => h q (Or.inr hq) (fun e => H.vG i hi (e ▸ hq))) }
theorem Fam.nil (e t : TypeId) (c : α → Array Value) (base : Nat) (w : World) (G : Nat → Nat) (f : Nat → α) : Fam e t c base w 0 G f (.slice none 0 0) :=
  ⟨fun i hi => absurd hi (by omega), ⟨rfl, Or.inl ⟨rfl, rfl⟩⟩, fun i hi => absurd hi (by omega), fun i j hi => absurd hi (by omega), fun i hi => absurd hi (by omega)⟩
/-- The slice's cells. -/
theorem Fam.slice (H : Fam e t c base w k G f v) (hk : 0 < k) :
    ∃ q cp, v = .slice (some ⟨q, 0, none⟩) k cp ∧ k ≤ cp ∧ cp ≤ maxLen ∧ ∀ i, i < k → w.cell? ⟨q, i, none⟩ = some (ptr (G i)) := by
  obtain ⟨_, ⟨rfl, h0⟩ | ⟨g, cap, cur, rfl, hb, hh, hc, hm, hs, ht⟩⟩ := H.own
  · omega
  · refine ⟨g, cap, rfl, hc, hm, fun i hi => ?_⟩
    have e : cur[i]? = some (ptr (G i)) := by
      have h1 : (cur.toList.take (k * 1))[i]? = (ptrs k G)[i]? := by rw [ht]
      rw [List.getElem?_take, if_pos (by omega), Array.getElem?_toList] at h1
      rw [h1]
      simp [ptrs, hi]
    exact cell_of hh e
theorem Fam.len (H : Fam e t c base w k G f v) : ∃ q cp, v = .slice q k cp := by
  obtain ⟨_, ⟨rfl, h0⟩ | ⟨g, cap, cur, rfl, _⟩⟩ := H.own
  · subst h0; exact ⟨_, _, rfl⟩
  · exact ⟨_, _, rfl⟩
/-- One more: it is new, and laid behind the others. -/
theorem Fam.push {w2 w3 : World} {g : Nat} {v' : Value} {x : α} (H : Fam e t c base w k G f v)
    (K : Below w.heap.size w w2) (hg : w.heap.size ≤ g) (hb : base ≤ w.heap.size) (hW : w2.heap[g]? = some (.cells (c x) t (0, 0))) (hown : w3.ownsRow base e 1 v' (k + 1) (ptrs k G ++ [ptr g])) (hgr : w2.grownBy w3 v.ownBlock) (hv : v'.ownBlock = v.ownBlock ∨ v'.ownBlock = some w2.heap.size) :
    Fam e t c base w3 (k + 1) (put G k g) (put f k x) v' := by
  have H2 := H.below K
  have hlg := lt_of_block hW
  have kG : ∀ i, i < k → G i < w.heap.size := fun i hi => lt_of_block (H.pr i hi)
  have hvlt : ∀ q, v.ownBlock = some q → q < w.heap.size := fun q hq => (own_lt H.own hq).1
  have kp : ∀ j, j < w2.heap.size → v.ownBlock ≠ some j → w3.heap[j]? = w2.heap[j]? := fun j hj hne => hgr.block j hj (fun e => hne e.symm)
  have gv : v.ownBlock ≠ some g := fun e => by have := hvlt g e; omega
  have vne : ∀ j, j < w2.heap.size → v.ownBlock ≠ some j → v'.ownBlock ≠ some j := by
    intro j hj hne e
    rcases hv with h | h
    · exact hne (h ▸ e)
    · rw [h] at e
      have : w2.heap.size = j := by simpa using e
      omega
  refine ⟨?_, ?_, ?_, ?_, ?_⟩
  · intro i hi
    by_cases e : i = k
    · subst e; rw [put_at, put_at]; exact (kp _ hlg gv).trans hW
    · rw [put_ne _ _ e, put_ne _ _ e]
      exact (kp _ (lt_of_block (H2.pr i (by omega))) (H.vG i (by omega))).trans (H2.pr i (by omega))
  · rw [ptrs_snoc]; exact hown
  · intro i hi
    by_cases e : i = k
    · subst e; rw [put_at]; omega
    · rw [put_ne _ _ e]; exact H.G0 i (by omega)
  · intro i j hi hj hij
    by_cases e : i = k
    · subst e
      rw [put_at, put_ne _ _ (Ne.symm hij)]
      have := kG j (by omega); omega
    · by_cases e' : j = k
      · subst e'
        rw [put_at, put_ne _ _ e]
        have := kG i (by omega); omega
      · rw [put_ne _ _ e, put_ne _ _ e']
        exact H.inj i j (by omega) (by omega) hij
  · intro i hi
    by_cases e : i = k
    · subst e; rw [put_at]; exact vne _ hlg gv
    · rw [put_ne _ _ e]
      exact vne _ (lt_of_block (H2.pr i (by omega))) (H.vG i (by omega))
/-- The blocks behind that: those from ahead, or new ones. -/
theorem inF_push {w2 : World} {g : Nat} {v' : Value} (hv : v'.ownBlock = v.ownBlock ∨ v'.ownBlock = some w2.heap.size) {q : Nat} (h : InF (k + 1) (put G k g) v' q) : InF k G v q ∨ q = g ∨ q = w2.heap.size := by
  rcases h with ⟨i, hi, rfl⟩ | h
  · by_cases e : i = k
    · subst e; rw [put_at]; exact Or.inr (Or.inl rfl)
    · rw [put_ne _ _ e]; exact Or.inl (Or.inl ⟨i, by omega, rfl⟩)
  · rcases hv with e | e
    · exact Or.inl (Or.inr (e ▸ h))
    · rw [e] at h
      exact Or.inr (Or.inr (by simpa using h.symm))
end

/-- Words, a ring's block, those who push, and those who pop. -/
structure Wd (w0 : World) (p b r : Nat) (ad n : Int) (w : World) (s : St) (np : Nat) (GP : Nat → Nat) (fP : Nat → Pr) (vP : Value) (ng : Nat) (GG : Nat → Nat) (fG : Nat → Pr) (vG : Value) : Prop where
  kn : Kn w0 p b r ad n w s
  fp : Fam 39 87 prC w0.heap.size w np GP fP vP
  fg : Fam 42 90 prC w0.heap.size w ng GG fG vG
  ap : ∀ q, InF np GP vP q → q ≠ p ∧ q ≠ b ∧ q ≠ r
  ag : ∀ q, InF ng GG vG q → q ≠ p ∧ q ≠ b ∧ q ≠ r
  pg : ∀ q, InF np GP vP q → ¬ InF ng GG vG q
section
variable {w0 w w' : World} {p b r : Nat} {ad n : Int} {s s' : St} {np : Nat} {GP : Nat → Nat} {fP : Nat → Pr} {vP : Value} {ng : Nat} {GG : Nat → Nat} {fG : Nat → Pr} {vG : Value}
theorem Wd.below (H : Wd w0 p b r ad n w s np GP fP vP ng GG fG vG) (K : Below w.heap.size w w') : Wd w0 p b r ad n w' s np GP fP vP ng GG fG vG :=
  { H with kn := H.kn.below K, fp := H.fp.below K, fg := H.fg.below K }
theorem Wd.load (H : Wd w0 p b r ad n w s np GP fP vP ng GG fG vG) (K : Turns 77 p b w w' s') : Wd w0 p b r ad n w' s' np GP fP vP ng GG fG vG :=
  { H with kn := H.kn.turn K, fp := H.fp.keep fun q hq => K.2.block q (H.fp.lt hq).1 (H.ap q hq).1 (H.ap q hq).2.1, fg := H.fg.keep fun q hq => K.2.block q (H.fg.lt hq).1 (H.ag q hq).1 (H.ag q hq).2.1 }
theorem Wd.stepP (H : Wd w0 p b r ad n w s np GP fP vP ng GG fG vG) {i : Nat} (hi : i < np) {x' : Pr} (K : Hs 87 w' p b (GP i) s' x' ∧ But3 (GP i) p b w w') : Wd w0 p b r ad n w' s' np GP (put fP i x') vP ng GG fG vG := by
  have hin : InF np GP vP (GP i) := Or.inl ⟨i, hi, rfl⟩
  exact { H with
    kn := { H.kn with mem := K.1.mem, ring := (K.2.block _ (lt_of_block H.kn.ring) (H.ap _ hin).2.2.symm H.kn.rp H.kn.rb).trans H.kn.ring, bel := K.2.bel' H.kn.bel (H.fp.G0 i hi) H.kn.p0 H.kn.b0 }
    fp := H.fp.step hi K.1.pr fun q hq hne => K.2.block q (H.fp.lt hq).1 hne (H.ap q hq).1 (H.ap q hq).2.1
    fg := H.fg.keep fun q hq => K.2.block q (H.fg.lt hq).1 (fun e => H.pg _ hin (e ▸ hq)) (H.ag q hq).1 (H.ag q hq).2.1 }
theorem Wd.stepG (H : Wd w0 p b r ad n w s np GP fP vP ng GG fG vG) {i : Nat} (hi : i < ng) {x' : Pr} (K : Hs 90 w' p b (GG i) s' x' ∧ But3 (GG i) p b w w') : Wd w0 p b r ad n w' s' np GP fP vP ng GG (put fG i x') vG := by
  have hin : InF ng GG vG (GG i) := Or.inl ⟨i, hi, rfl⟩
  exact { H with
    kn := { H.kn with mem := K.1.mem, ring := (K.2.block _ (lt_of_block H.kn.ring) (H.ag _ hin).2.2.symm H.kn.rp H.kn.rb).trans H.kn.ring, bel := K.2.bel' H.kn.bel (H.fg.G0 i hi) H.kn.p0 H.kn.b0 }
    fg := H.fg.step hi K.1.pr fun q hq hne => K.2.block q (H.fg.lt hq).1 hne (H.ag q hq).1 (H.ag q hq).2.1
    fp := H.fp.keep fun q hq => K.2.block q (H.fp.lt hq).1 (fun e => H.pg q hq (e ▸ hin)) (H.ap q hq).1 (H.ap q hq).2.1 }
theorem Wd.hsP (H : Wd w0 p b r ad n w s np GP fP vP ng GG fG vG) {i : Nat} (hi : i < np) : Hs 87 w p b (GP i) s (fP i) :=
  ⟨H.kn.mem, H.fp.pr i hi, (H.ap _ (Or.inl ⟨i, hi, rfl⟩)).1, (H.ap _ (Or.inl ⟨i, hi, rfl⟩)).2.1⟩
theorem Wd.hsG (H : Wd w0 p b r ad n w s np GP fP vP ng GG fG vG) {i : Nat} (hi : i < ng) : Hs 90 w p b (GG i) s (fG i) :=
  ⟨H.kn.mem, H.fg.pr i hi, (H.ag _ (Or.inl ⟨i, hi, rfl⟩)).1, (H.ag _ (Or.inl ⟨i, hi, rfl⟩)).2.1⟩
theorem Wd.first (H : Kn w0 p b r ad n w s) (G : Nat → Nat) (f : Nat → Pr) : Wd w0 p b r ad n w s 0 G f (.slice none 0 0) 0 G f (.slice none 0 0) := by
  have no : ∀ q, ¬ InF 0 G (.slice none 0 0) q := by
    rintro q (⟨i, hi, _⟩ | h)
    · omega
    · cases h
  exact ⟨H, Fam.nil .., Fam.nil .., fun q hq => absurd hq (no q), fun q hq => absurd hq (no q), fun q hq => absurd hq (no q)⟩
/-- What lies apart from an append of one more is kept. -/
theorem Kn.grown {w2 w3 : World} {row : Option Nat} (H : Kn w0 p b r ad n w2 s) (hgr : w2.grownBy w3 row) (hr : ∀ q, row = some q → q ≠ p ∧ q ≠ b ∧ q ≠ r ∧ w0.heap.size ≤ q) : Kn w0 p b r ad n w3 s := by
  have l := H.mem.lt
  exact { H with
    mem := H.mem.keep (hgr.block _ l.1 (fun e => (hr _ e.symm).1 rfl)) (hgr.block _ l.2 (fun e => (hr _ e.symm).2.1 rfl))
    ring := (hgr.block _ (lt_of_block H.ring) (fun e => (hr _ e.symm).2.2.1 rfl)).trans H.ring
    bel := H.bel.grown hgr H.bel.size (fun j e => (hr j e).2.2.2) }
theorem Wd.pushP {w2 w3 : World} {g : Nat} {v' : Value} {x : Pr} (H : Wd w0 p b r ad n w s np GP fP vP ng GG fG vG) (K : Below w.heap.size w w2) (hg : w.heap.size ≤ g) (hW : IsPr 87 w2 g x)
    (hown : w3.ownsRow w0.heap.size 39 1 v' (np + 1) (ptrs np GP ++ [ptr g])) (hgr : w2.grownBy w3 vP.ownBlock) (hv : v'.ownBlock = vP.ownBlock ∨ v'.ownBlock = some w2.heap.size) :
    Wd w0 p b r ad n w3 s (np + 1) (put GP np g) (put fP np x) v' ng GG fG vG := by
  have H2 := H.below K
  have hs := K.size
  have hrow : ∀ q, vP.ownBlock = some q → q ≠ p ∧ q ≠ b ∧ q ≠ r ∧ w0.heap.size ≤ q := fun q hq => ⟨(H.ap q (Or.inr hq)).1, (H.ap q (Or.inr hq)).2.1, (H.ap q (Or.inr hq)).2.2, (own_lt H.fp.own hq).2⟩
  have l := H.kn.mem.lt
  have lr := lt_of_block H.kn.ring
  have hlg := hW.lt
  refine ⟨H2.kn.grown hgr hrow, H.fp.push K hg H.kn.bel.size hW hown hgr hv, H2.fg.keep (fun q hq => hgr.block q (H2.fg.lt hq).1 (fun e => H.pg q (Or.inr e.symm) hq)), fun q hq => ?_, H.ag, fun q hq hq2 => ?_⟩
  · rcases inF_push hv hq with h | h | h
    · exact H.ap q h
    · omega
    · omega
  · have l2 := (H.fg.lt hq2).1
    rcases inF_push hv hq with h | h | h
    · exact H.pg q h hq2
    · omega
    · omega
theorem Wd.pushG {w2 w3 : World} {g : Nat} {v' : Value} {x : Pr} (H : Wd w0 p b r ad n w s np GP fP vP ng GG fG vG) (K : Below w.heap.size w w2) (hg : w.heap.size ≤ g) (hW : IsPr 90 w2 g x)
    (hown : w3.ownsRow w0.heap.size 42 1 v' (ng + 1) (ptrs ng GG ++ [ptr g])) (hgr : w2.grownBy w3 vG.ownBlock) (hv : v'.ownBlock = vG.ownBlock ∨ v'.ownBlock = some w2.heap.size) :
    Wd w0 p b r ad n w3 s np GP fP vP (ng + 1) (put GG ng g) (put fG ng x) v' := by
  have H2 := H.below K
  have hs := K.size
  have hrow : ∀ q, vG.ownBlock = some q → q ≠ p ∧ q ≠ b ∧ q ≠ r ∧ w0.heap.size ≤ q := fun q hq => ⟨(H.ag q (Or.inr hq)).1, (H.ag q (Or.inr hq)).2.1, (H.ag q (Or.inr hq)).2.2, (own_lt H.fg.own hq).2⟩
  have l := H.kn.mem.lt
  have lr := lt_of_block H.kn.ring
  have hlg := hW.lt
  refine ⟨H2.kn.grown hgr hrow, H2.fp.keep (fun q hq => hgr.block q (H2.fp.lt hq).1 (fun e => H.pg q hq (Or.inr e.symm))), H.fg.push K hg H.kn.bel.size hW hown hgr hv, H.ap, fun q hq => ?_, fun q hq2 hq => ?_⟩
  · rcases inF_push hv hq with h | h | h
    · exact H.ag q h
    · omega
    · omega
  · have l2 := (H.fp.lt hq2).1
    rcases inF_push hv hq with h | h | h
    · exact H.pg q hq2 h
    · omega
    · omega
end
end Go.Proofs.Ytfnfbceblpaggaa
