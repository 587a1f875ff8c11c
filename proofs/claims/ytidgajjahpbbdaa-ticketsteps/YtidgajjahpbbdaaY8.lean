/- Many holders of the document's answer, beside those of the program. Of no function; no conditions. -/
import Derived.Test.YtidgajjahpbbdaaY6
import Derived.Test.YtidgajjahpbbdaaR4
import Derived.Test.YtidgajjahpbbdaaW5
namespace Go.Proofs.Ytidgajjahpbbdaa
open Go.RowKit

/-- Words, and k holders, in a slice v; and blocks X that do not change. -/
structure Sr (w0 w : World) (p b : Nat) (X : List (Nat × Obj)) (s : St) (k : Nat) (G : Nat → Nat) (f : Nat → Ho) (v : Value) : Prop where
  mem : Mem 51 w p b s
  rh : ∀ i, i < k → IsRh w (G i) (f i)
  own : w.ownsRow w0.heap.size 35 1 v k (ptrs k G)
  fix : ∀ e ∈ X, w.heap[e.1]? = some e.2 ∧ Ap p b k G v e.1 ∧ w0.heap.size ≤ e.1
  bel : Below w0.heap.size w0 w
  p0 : w0.heap.size ≤ p
  b0 : w0.heap.size ≤ b
  G0 : ∀ i, i < k → w0.heap.size ≤ G i
  Gp : ∀ i, i < k → G i ≠ p
  Gb : ∀ i, i < k → G i ≠ b
  inj : ∀ i j, i < k → j < k → i ≠ j → G i ≠ G j
  vp : v.ownBlock ≠ some p
  vb : v.ownBlock ≠ some b
  vG : ∀ i, i < k → v.ownBlock ≠ some (G i)

theorem Sr.below {w0 w w' : World} {p b : Nat} {X : List (Nat × Obj)} {s : St} {k : Nat} {G : Nat → Nat} {f : Nat → Ho} {v : Value} (H : Sr w0 w p b X s k G f v) (K : Below w.heap.size w w') : Sr w0 w' p b X s k G f v :=
  { H with mem := H.mem.below K, rh := fun i hi => (H.rh i hi).below K, own := own_keep H.own (fun _ hq => K.block _ (own_lt H.own hq).1)
           fix := fun e he => ⟨(K.block _ (lt_of_block (H.fix e he).1)).trans (H.fix e he).1, (H.fix e he).2⟩, bel := bel_trans H.bel K }
/-- Something that lies apart from all goes on. -/
theorem Sr.other {w0 w w' : World} {p b h : Nat} {X : List (Nat × Obj)} {s s' : St} {k : Nat} {G : Nat → Nat} {f : Nat → Ho} {v : Value} (H : Sr w0 w p b X s k G f v) (hA : Ap p b k G v h) (hX : ∀ e ∈ X, h ≠ e.1) (h0 : w0.heap.size ≤ h) (hm : Mem 51 w' p b s') (K : But3 h p b w w') : Sr w0 w' p b X s' k G f v :=
  { H with mem := hm, rh := fun i hi => (H.rh i hi).keep (K.block _ (H.rh i hi).lt (hA.nG i hi).symm (H.Gp i hi) (H.Gb i hi))
           own := own_keep H.own (fun _ hq => K.block _ (own_lt H.own hq).1 (fun e => hA.nv (e ▸ hq)) (fun e => H.vp (e ▸ hq)) (fun e => H.vb (e ▸ hq)))
           fix := fun e he => ⟨(K.block _ (lt_of_block (H.fix e he).1) (hX e he).symm (H.fix e he).2.1.np (H.fix e he).2.1.nb).trans (H.fix e he).1, (H.fix e he).2⟩
           bel := K.bel H.bel h0 H.p0 H.b0 }
theorem Sr.step {w0 w w' : World} {p b : Nat} {X : List (Nat × Obj)} {s s' : St} {k : Nat} {G : Nat → Nat} {f : Nat → Ho} {v : Value} {x' : Ho} (H : Sr w0 w p b X s k G f v) (i : Nat) (hi : i < k) (K : Rs w' p b (G i) s' x' ∧ But3 (G i) p b w w') : Sr w0 w' p b X s' k G (upd f i x') v :=
  { H with mem := K.1.mem
           rh := fun j hj => by
             by_cases e : j = i
             · subst e; rw [upd_at]; exact K.1.rh
             · rw [upd_ne _ _ e]
               exact (H.rh j hj).keep (K.2.block _ (H.rh j hj).lt (H.inj j i hj hi e) (H.Gp j hj) (H.Gb j hj))
           own := own_keep H.own (fun _ hq => K.2.block _ (own_lt H.own hq).1 (fun e => H.vG i hi (e ▸ hq)) (fun e => H.vp (e ▸ hq)) (fun e => H.vb (e ▸ hq)))
           fix := fun e he => ⟨(K.2.block _ (lt_of_block (H.fix e he).1) ((H.fix e he).2.1.nG i hi) (H.fix e he).2.1.np (H.fix e he).2.1.nb).trans (H.fix e he).1, (H.fix e he).2⟩
           bel := K.2.bel H.bel (H.G0 i hi) H.p0 H.b0 }
theorem Sr.load {w0 w w' : World} {p b : Nat} {X : List (Nat × Obj)} {s s' : St} {k : Nat} {G : Nat → Nat} {f : Nat → Ho} {v : Value} (H : Sr w0 w p b X s k G f v) (K : Turns 51 p b w w' s') : Sr w0 w' p b X s' k G f v :=
  { H with mem := K.1, rh := fun i hi => (H.rh i hi).keep (K.2.block _ (H.rh i hi).lt (H.Gp i hi) (H.Gb i hi))
           own := own_keep H.own (fun _ hq => K.2.block _ (own_lt H.own hq).1 (fun e => H.vp (e ▸ hq)) (fun e => H.vb (e ▸ hq)))
           fix := fun e he => ⟨(K.2.block _ (lt_of_block (H.fix e he).1) (H.fix e he).2.1.np (H.fix e he).2.1.nb).trans (H.fix e he).1, (H.fix e he).2⟩
           bel := (But3.of_but (g := p) K.2).bel H.bel H.p0 H.p0 H.b0 }
theorem Sr.rs {w0 w : World} {p b : Nat} {X : List (Nat × Obj)} {s : St} {k : Nat} {G : Nat → Nat} {f : Nat → Ho} {v : Value} (H : Sr w0 w p b X s k G f v) (i : Nat) (hi : i < k) : Rs w p b (G i) s (f i) := ⟨H.mem, H.rh i hi, H.Gp i hi, H.Gb i hi⟩

/-- The slice's cells. -/
theorem Sr.slice {w0 w : World} {p b : Nat} {X : List (Nat × Obj)} {s : St} {k : Nat} {G : Nat → Nat} {f : Nat → Ho} {v : Value} (H : Sr w0 w p b X s k G f v) (hk : 0 < k) :
    ∃ q c, v = .slice (some ⟨q, 0, none⟩) k c ∧ k ≤ c ∧ c ≤ maxLen ∧ ∀ i, i < k → w.cell? ⟨q, i, none⟩ = some (ptr (G i)) := by
  obtain ⟨_, ⟨rfl, h0⟩ | ⟨g, cap, cur, rfl, hb, hh, hc, hm, hs, ht⟩⟩ := H.own
  · omega
  · refine ⟨g, cap, rfl, hc, hm, fun i hi => ?_⟩
    have e : cur[i]? = some (ptr (G i)) := by
      have h1 : (cur.toList.take (k * 1))[i]? = (ptrs k G)[i]? := by rw [ht]
      rw [List.getElem?_take, if_pos (by omega), Array.getElem?_toList] at h1
      rw [h1]
      simp [ptrs, hi]
    exact cell_of hh e
theorem Sr.len {w0 w : World} {p b : Nat} {X : List (Nat × Obj)} {s : St} {k : Nat} {G : Nat → Nat} {f : Nat → Ho} {v : Value} (H : Sr w0 w p b X s k G f v) : ∃ q c, v = .slice q k c := by
  obtain ⟨_, ⟨rfl, h0⟩ | ⟨g, cap, cur, rfl, _⟩⟩ := H.own
  · subst h0; exact ⟨_, _, rfl⟩
  · exact ⟨_, _, rfl⟩
/-- One holder more: it is new, and laid behind the others. -/
theorem Sr.push {w0 w w2 w3 : World} {p b g : Nat} {X : List (Nat × Obj)} {s : St} {k : Nat} {G : Nat → Nat} {f : Nat → Ho} {v v' : Value} {x : Ho} (H : Sr w0 w p b X s k G f v)
    (K : Below w.heap.size w w2) (hg : w.heap.size ≤ g) (hW : IsRh w2 g x) (hown : w3.ownsRow w0.heap.size 35 1 v' (k + 1) (ptrs k G ++ [ptr g])) (hgr : w2.grownBy w3 v.ownBlock) (hv : v'.ownBlock = v.ownBlock ∨ v'.ownBlock = some w2.heap.size) :
    Sr w0 w3 p b X s (k + 1) (upd G k g) (upd f k x) v' := by
  have H2 := H.below K
  have hlg := hW.lt
  have u := H.mem.lt
  have kG : ∀ i, i < k → G i < w.heap.size := fun i hi => (H.rh i hi).lt
  have hvlt : ∀ q, v.ownBlock = some q → q < w.heap.size := fun q hq => (own_lt H.own hq).1
  have keep : ∀ j, j < w2.heap.size → v.ownBlock ≠ some j → w3.heap[j]? = w2.heap[j]? := fun j hj hne => hgr.block j hj (fun e => hne e.symm)
  have gv : v.ownBlock ≠ some g := fun e => by have := hvlt g e; omega
  have vne : ∀ j, j < w2.heap.size → v.ownBlock ≠ some j → v'.ownBlock ≠ some j := by
    intro j hj hne e
    rcases hv with h | h
    · exact hne (h ▸ e)
    · rw [h] at e
      have : w2.heap.size = j := by simpa using e
      omega
  have ks := K.size
  refine ⟨H2.mem.keep (keep _ H2.mem.lt.1 H.vp) (keep _ H2.mem.lt.2 H.vb), ?_, ?_, ?_, ?_, H.p0, H.b0, ?_, ?_, ?_, ?_, vne _ H2.mem.lt.1 H.vp, vne _ H2.mem.lt.2 H.vb, ?_⟩
  · intro i hi
    by_cases e : i = k
    · subst e; rw [upd_at, upd_at]; exact hW.keep (keep _ hlg gv)
    · rw [upd_ne _ _ e, upd_ne _ _ e]
      exact (H2.rh i (by omega)).keep (keep _ (H2.rh i (by omega)).lt (H.vG i (by omega)))
  · rw [ptrs_snoc]; exact hown
  · intro e he
    obtain ⟨f1, f2, f3⟩ := H2.fix e he
    have l1 := lt_of_block (H.fix e he).1
    refine ⟨(keep _ (lt_of_block f1) f2.nv).trans f1, ⟨f2.np, f2.nb, ?_, vne _ (by omega) f2.nv⟩, f3⟩
    intro i hi
    by_cases e' : i = k
    · subst e'; rw [upd_at]; omega
    · rw [upd_ne _ _ e']; exact f2.nG i (by omega)
  · exact H2.bel.grown hgr H2.bel.size (fun j e => (own_lt H.own e).2)
  · intro i hi
    by_cases e : i = k
    · subst e; rw [upd_at]; have := H.bel.size; omega
    · rw [upd_ne _ _ e]; exact H.G0 i (by omega)
  · intro i hi
    by_cases e : i = k
    · subst e; rw [upd_at]; omega
    · rw [upd_ne _ _ e]; exact H.Gp i (by omega)
  · intro i hi
    by_cases e : i = k
    · subst e; rw [upd_at]; omega
    · rw [upd_ne _ _ e]; exact H.Gb i (by omega)
  · intro i j hi hj hij
    by_cases e : i = k
    · subst e
      rw [upd_at, upd_ne _ _ (Ne.symm hij)]
      have := kG j (by omega); omega
    · by_cases e' : j = k
      · subst e'
        rw [upd_at, upd_ne _ _ e]
        have := kG i (by omega); omega
      · rw [upd_ne _ _ e, upd_ne _ _ e']
        exact H.inj i j (by omega) (by omega) hij
  · intro i hi
    by_cases e : i = k
    · subst e; rw [upd_at]; exact vne _ hlg gv
    · rw [upd_ne _ _ e]
      exact vne _ (H2.rh i (by omega)).lt (H.vG i (by omega))

theorem Sr.keep {w0 w w' : World} {p b : Nat} {s : St} {k : Nat} {G : Nat → Nat} {f : Nat → Ho} {v : Value} (H : Sr w0 w p b [] s k G f v) (hb : ∀ q, q < w.heap.size → Sy.In p b k G v q → w'.heap[q]? = w.heap[q]?) (hB : Below w0.heap.size w0 w') : Sr w0 w' p b [] s k G f v :=
  { H with mem := H.mem.keep (hb _ H.mem.lt.1 (Or.inl rfl)) (hb _ H.mem.lt.2 (Or.inr (Or.inl rfl)))
           rh := fun i hi => (H.rh i hi).keep (hb _ (H.rh i hi).lt (Or.inr (Or.inr (Or.inl ⟨i, hi, rfl⟩))))
           own := own_keep H.own (fun q hq => hb q (own_lt H.own hq).1 (Or.inr (Or.inr (Or.inr hq))))
           fix := fun e he => absurd he (by simp)
           bel := hB }
theorem Sr.leave {w0 w w' : World} {p b : Nat} {X : List (Nat × Obj)} {s : St} {k : Nat} {G : Nat → Nat} {f : Nat → Ho} {v : Value} {x' : Ho} (H : Sr w0 w p b X s k G f v) (i : Nat) (hi : i < k) (K : IsRh w' (G i) x' ∧ But (G i) (G i) w w') : Sr w0 w' p b X s k G (upd f i x') v :=
  H.step i hi ⟨⟨H.mem.but K.2 (H.Gp i hi).symm (H.Gp i hi).symm (H.Gb i hi).symm (H.Gb i hi).symm, K.1, H.Gp i hi, H.Gb i hi⟩, But3.of_one K.2⟩

/-- The program's holders, and the document's, apart from one another. -/
structure Tw (w0 w : World) (p b k : Nat) (G : Nat → Nat) (v : Value) (s : St) (f : Nat → Ho) (p' b' j : Nat) (G' : Nat → Nat) (v' : Value) (s' : St) (f' : Nat → Ho) : Prop where
  a : Sy w0 w p b [] s k G f v
  r : Sr w0 w p' b' [] s' j G' f' v'
  ap : ∀ q, Sy.In p b k G v q → ¬ Sy.In p' b' j G' v' q
section
variable {w0 w w' : World} {p b k : Nat} {G : Nat → Nat} {v : Value} {s s1 : St} {f : Nat → Ho} {p' b' j : Nat} {G' : Nat → Nat} {v' : Value} {s' s1' : St} {f' : Nat → Ho} {x : Ho}
theorem Tw.below (H : Tw w0 w p b k G v s f p' b' j G' v' s' f') (K : Below w.heap.size w w') : Tw w0 w' p b k G v s f p' b' j G' v' s' f' := ⟨H.a.below K, H.r.below K, H.ap⟩
theorem in3 {i : Nat} (hi : i < k) {q : Nat} (h : q = G i ∨ q = p ∨ q = b) : Sy.In p b k G v q := by
  rcases h with rfl | rfl | rfl
  · exact Or.inr (Or.inr (Or.inl ⟨i, hi, rfl⟩))
  · exact Or.inl rfl
  · exact Or.inr (Or.inl rfl)
theorem Tw.stepA (H : Tw w0 w p b k G v s f p' b' j G' v' s' f') (i : Nat) (hi : i < k) (K : Hs w' p b (G i) s1 x ∧ But3 (G i) p b w w') : Tw w0 w' p b k G v s1 (upd f i x) p' b' j G' v' s' f' := by
  have hA := H.a.step i hi K
  refine ⟨hA, H.r.keep (fun q hq hin => K.2.block q hq (fun e => ?_) (fun e => ?_) (fun e => ?_)) hA.bel, H.ap⟩
  · exact H.ap q (in3 hi (Or.inl e)) hin
  · exact H.ap q (in3 hi (Or.inr (Or.inl e))) hin
  · exact H.ap q (in3 hi (Or.inr (Or.inr e))) hin
theorem Tw.stepR (H : Tw w0 w p b k G v s f p' b' j G' v' s' f') (i : Nat) (hi : i < j) (K : Rs w' p' b' (G' i) s1' x ∧ But3 (G' i) p' b' w w') : Tw w0 w' p b k G v s f p' b' j G' v' s1' (upd f' i x) := by
  have hA := H.r.step i hi K
  refine ⟨H.a.keep (fun q hq hin => K.2.block q hq (fun e => ?_) (fun e => ?_) (fun e => ?_)) hA.bel, hA, H.ap⟩
  · exact H.ap q hin (in3 hi (Or.inl e))
  · exact H.ap q hin (in3 hi (Or.inr (Or.inl e)))
  · exact H.ap q hin (in3 hi (Or.inr (Or.inr e)))
theorem Tw.leaveA (H : Tw w0 w p b k G v s f p' b' j G' v' s' f') (i : Nat) (hi : i < k) (K : IsHo w' (G i) x ∧ But (G i) (G i) w w') : Tw w0 w' p b k G v s (upd f i x) p' b' j G' v' s' f' :=
  H.stepA i hi ⟨⟨H.a.mem.but K.2 (H.a.Gp i hi).symm (H.a.Gp i hi).symm (H.a.Gb i hi).symm (H.a.Gb i hi).symm, K.1, H.a.Gp i hi, H.a.Gb i hi⟩, But3.of_one K.2⟩
theorem Tw.leaveR (H : Tw w0 w p b k G v s f p' b' j G' v' s' f') (i : Nat) (hi : i < j) (K : IsRh w' (G' i) x ∧ But (G' i) (G' i) w w') : Tw w0 w' p b k G v s f p' b' j G' v' s' (upd f' i x) :=
  H.stepR i hi ⟨⟨H.r.mem.but K.2 (H.r.Gp i hi).symm (H.r.Gp i hi).symm (H.r.Gb i hi).symm (H.r.Gb i hi).symm, K.1, H.r.Gp i hi, H.r.Gb i hi⟩, But3.of_one K.2⟩
theorem Sy.in_lt (H : Sy w0 w p b [] s k G f v) {q : Nat} (h : Sy.In p b k G v q) : q < w.heap.size := by
  rcases h with rfl | rfl | ⟨i, hi, rfl⟩ | h
  · exact H.mem.lt.1
  · exact H.mem.lt.2
  · exact (H.ho i hi).lt
  · exact (owns_lt H.own h).1
theorem Tw.push {w2 w3 : World} {g : Nat} {u' : Value} (H : Tw w0 w p b k G v s f p' b' j G' v' s' f') (K : Below w.heap.size w w2) (hg : w.heap.size ≤ g) (hW : IsRh w2 g x)
    (hown : w3.ownsRow w0.heap.size 35 1 u' (j + 1) (ptrs j G' ++ [ptr g])) (hgr : w2.grownBy w3 v'.ownBlock) (hv : u'.ownBlock = v'.ownBlock ∨ u'.ownBlock = some w2.heap.size) :
    Tw w0 w3 p b k G v s f p' b' (j + 1) (upd G' j g) u' s' (upd f' j x) := by
  have hR := H.r.push K hg hW hown hgr hv
  have H2 := H.below K
  have ks := K.size
  refine ⟨H2.a.keep (fun q hq hin => hgr.block q hq (fun e => H.ap q hin (Or.inr (Or.inr (Or.inr e.symm))))) hR.bel, hR, fun q hin hin' => ?_⟩
  have hq := H.a.in_lt hin
  rcases hin' with e | e | ⟨i, hi, e⟩ | e
  · exact H.ap q hin (Or.inl e)
  · exact H.ap q hin (Or.inr (Or.inl e))
  · by_cases ei : i = j
    · subst ei; rw [upd_at] at e; omega
    · rw [upd_ne _ _ ei] at e
      exact H.ap q hin (Or.inr (Or.inr (Or.inl ⟨i, by omega, e⟩)))
  · rcases hv with h | h
    · exact H.ap q hin (Or.inr (Or.inr (Or.inr (h ▸ e))))
    · rw [h] at e
      have : w2.heap.size = q := by simpa using e
      omega
/-- When the program's holders are there, and none of the document's. -/
theorem Tw.first {wB : World} (H : Sy w0 w p b [] s k G f v) (hM : Mem 51 wB p' b' s') (hB : Below wB.heap.size wB w) (hG : ∀ i, i < k → wB.heap.size ≤ G i) (hv : ∀ q, v.ownBlock = some q → wB.heap.size ≤ q)
    (h0 : w0.heap.size ≤ p') (h0' : w0.heap.size ≤ b') (hp : p' ≠ p ∧ p' ≠ b) (hb : b' ≠ p ∧ b' ≠ b) : Tw w0 w p b k G v s f p' b' 0 G' (.slice none 0 0) s' f' := by
  have u := hM.lt
  refine ⟨H, ⟨hM.below hB, fun i hi => absurd hi (by omega), ⟨rfl, Or.inl ⟨rfl, rfl⟩⟩, fun e he => absurd he (by simp), H.bel, h0, h0', fun i hi => absurd hi (by omega), fun i hi => absurd hi (by omega), fun i hi => absurd hi (by omega), fun i j hi => absurd hi (by omega), by simp [Value.ownBlock], by simp [Value.ownBlock], fun i hi => absurd hi (by omega)⟩, fun q hin hin' => ?_⟩
  have hq : q = p' ∨ q = b' := by
    rcases hin' with e | e | ⟨i, hi, _⟩ | e
    · exact Or.inl e
    · exact Or.inr e
    · omega
    · cases e
  rcases hin with e | e | ⟨i, hi, e⟩ | e
  · omega
  · omega
  · have := hG i hi; omega
  · have := hv q e; omega
end
end Go.Proofs.Ytidgajjahpbbdaa
