/- Many holders of one lock: what is known of memory while they are made and go on. Of no function; no conditions. -/
import Derived.Test.YtidgajjahpbbdaaK
import Derived.Deep.AppendLies
namespace Go.Proofs.Ytidgajjahpbbdaa
open Go.RowKit

def upd {α : Type} (f : Nat → α) (i : Nat) (x : α) : Nat → α := fun j => if j = i then x else f j
theorem upd_at {α : Type} (f : Nat → α) (i : Nat) (x : α) : upd f i x i = x := by simp [upd]
theorem upd_ne {α : Type} (f : Nat → α) {i j : Nat} (x : α) (h : j ≠ i) : upd f i x j = f j := by simp [upd, h]
def ptr (g : Nat) : Value := .pointer (some ⟨g, 0, none⟩)
def ptrs (k : Nat) (G : Nat → Nat) : List Value := (List.range k).map fun i => ptr (G i)

/-- Blocks that are none of p, b, those of G, nor the slice's own. -/
structure Ap (p b k : Nat) (G : Nat → Nat) (v : Value) (h : Nat) : Prop where
  np : h ≠ p
  nb : h ≠ b
  nG : ∀ i, i < k → h ≠ G i
  nv : v.ownBlock ≠ some h

/-- Words, and k holders, in a slice v; and blocks X that do not change. -/
structure Sy (w0 w : World) (p b : Nat) (X : List (Nat × Obj)) (s : St) (k : Nat) (G : Nat → Nat) (f : Nat → Ho) (v : Value) : Prop where
  mem : Mem 59 w p b s
  ho : ∀ i, i < k → IsHo w (G i) (f i)
  own : w.ownsRow w0.heap.size 39 1 v k (ptrs k G)
  fix : ∀ e ∈ X, w.heap[e.1]? = some e.2 ∧ Ap p b k G v e.1 ∧ w0.heap.size ≤ e.1
  bel : Below w0.heap.size w0 w
  p0 : w0.heap.size ≤ p
  b0 : w0.heap.size ≤ b
  G0 : ∀ i, i < k → w0.heap.size ≤ G i
  Gp : ∀ i, i < k → G i ≠ p
  Gb : ∀ i, i < k → G i ≠ b
  inj : ∀ i j, i < k → j < k → i ≠ j → G i ≠ G j
  vp : v.ownBlock ≠ some p
  vb : v.ownBlock ≠ some b
  vG : ∀ i, i < k → v.ownBlock ≠ some (G i)

theorem owns_keep {w w' : World} {base : Nat} {v : Value} {k : Nat} {xs : List Value} (h : w.ownsRow base 39 1 v k xs) (e : ∀ q, v.ownBlock = some q → w'.heap[q]? = w.heap[q]?) : w'.ownsRow base 39 1 v k xs := by
  obtain ⟨h1, h2 | ⟨g, cap, cur, rfl, hb, hh, h3⟩⟩ := h
  · exact ⟨h1, Or.inl h2⟩
  · exact ⟨h1, Or.inr ⟨g, cap, cur, rfl, hb, (e g rfl).trans hh, h3⟩⟩
theorem owns_lt {w : World} {base : Nat} {v : Value} {k : Nat} {xs : List Value} (h : w.ownsRow base 39 1 v k xs) {q : Nat} (hq : v.ownBlock = some q) : q < w.heap.size ∧ base ≤ q := by
  obtain ⟨_, ⟨rfl, _⟩ | ⟨g, cap, cur, rfl, hb, hh, _⟩⟩ := h
  · cases hq
  · obtain rfl : g = q := by simpa [Value.ownBlock] using hq
    exact ⟨lt_of_block hh, hb⟩

theorem Sy.below {w0 w w' : World} {p b : Nat} {X : List (Nat × Obj)} {s : St} {k : Nat} {G : Nat → Nat} {f : Nat → Ho} {v : Value} (H : Sy w0 w p b X s k G f v) (K : Below w.heap.size w w') : Sy w0 w' p b X s k G f v :=
  { H with mem := H.mem.below K, ho := fun i hi => (H.ho i hi).below K, own := owns_keep H.own (fun _ hq => K.block _ (owns_lt H.own hq).1)
           fix := fun e he => ⟨(K.block _ (lt_of_block (H.fix e he).1)).trans (H.fix e he).1, (H.fix e he).2⟩, bel := bel_trans H.bel K }
/-- Something that lies apart from all goes on. -/
theorem Sy.other {w0 w w' : World} {p b h : Nat} {X : List (Nat × Obj)} {s s' : St} {k : Nat} {G : Nat → Nat} {f : Nat → Ho} {v : Value} (H : Sy w0 w p b X s k G f v) (hA : Ap p b k G v h) (hX : ∀ e ∈ X, h ≠ e.1) (h0 : w0.heap.size ≤ h) (hm : Mem 59 w' p b s') (K : But3 h p b w w') : Sy w0 w' p b X s' k G f v :=
  { H with mem := hm, ho := fun i hi => (H.ho i hi).keep (K.block _ (H.ho i hi).lt (hA.nG i hi).symm (H.Gp i hi) (H.Gb i hi))
           own := owns_keep H.own (fun _ hq => K.block _ (owns_lt H.own hq).1 (fun e => hA.nv (e ▸ hq)) (fun e => H.vp (e ▸ hq)) (fun e => H.vb (e ▸ hq)))
           fix := fun e he => ⟨(K.block _ (lt_of_block (H.fix e he).1) (hX e he).symm (H.fix e he).2.1.np (H.fix e he).2.1.nb).trans (H.fix e he).1, (H.fix e he).2⟩
           bel := K.bel H.bel h0 H.p0 H.b0 }
theorem Sy.step {w0 w w' : World} {p b : Nat} {X : List (Nat × Obj)} {s s' : St} {k : Nat} {G : Nat → Nat} {f : Nat → Ho} {v : Value} {x' : Ho} (H : Sy w0 w p b X s k G f v) (i : Nat) (hi : i < k) (K : Hs w' p b (G i) s' x' ∧ But3 (G i) p b w w') : Sy w0 w' p b X s' k G (upd f i x') v :=
  { H with mem := K.1.mem
           ho := fun j hj => by
             by_cases e : j = i
             · subst e; rw [upd_at]; exact K.1.ho
             · rw [upd_ne _ _ e]
               exact (H.ho j hj).keep (K.2.block _ (H.ho j hj).lt (H.inj j i hj hi e) (H.Gp j hj) (H.Gb j hj))
           own := owns_keep H.own (fun _ hq => K.2.block _ (owns_lt H.own hq).1 (fun e => H.vG i hi (e ▸ hq)) (fun e => H.vp (e ▸ hq)) (fun e => H.vb (e ▸ hq)))
           fix := fun e he => ⟨(K.2.block _ (lt_of_block (H.fix e he).1) ((H.fix e he).2.1.nG i hi) (H.fix e he).2.1.np (H.fix e he).2.1.nb).trans (H.fix e he).1, (H.fix e he).2⟩
           bel := K.2.bel H.bel (H.G0 i hi) H.p0 H.b0 }
theorem Sy.load {w0 w w' : World} {p b : Nat} {X : List (Nat × Obj)} {s s' : St} {k : Nat} {G : Nat → Nat} {f : Nat → Ho} {v : Value} (H : Sy w0 w p b X s k G f v) (K : Turns 59 p b w w' s') : Sy w0 w' p b X s' k G f v :=
  { H with mem := K.1, ho := fun i hi => (H.ho i hi).keep (K.2.block _ (H.ho i hi).lt (H.Gp i hi) (H.Gb i hi))
           own := owns_keep H.own (fun _ hq => K.2.block _ (owns_lt H.own hq).1 (fun e => H.vp (e ▸ hq)) (fun e => H.vb (e ▸ hq)))
           fix := fun e he => ⟨(K.2.block _ (lt_of_block (H.fix e he).1) (H.fix e he).2.1.np (H.fix e he).2.1.nb).trans (H.fix e he).1, (H.fix e he).2⟩
           bel := (But3.of_but (g := p) K.2).bel H.bel H.p0 H.p0 H.b0 }
theorem Sy.hs {w0 w : World} {p b : Nat} {X : List (Nat × Obj)} {s : St} {k : Nat} {G : Nat → Nat} {f : Nat → Ho} {v : Value} (H : Sy w0 w p b X s k G f v) (i : Nat) (hi : i < k) : Hs w p b (G i) s (f i) := ⟨H.mem, H.ho i hi, H.Gp i hi, H.Gb i hi⟩

theorem ptrs_len (k : Nat) (G : Nat → Nat) : (ptrs k G).length = k := by simp [ptrs]
theorem ptrs_snoc (k : Nat) (G : Nat → Nat) (g : Nat) : ptrs (k + 1) (upd G k g) = ptrs k G ++ [ptr g] := by
  unfold ptrs
  rw [List.range_succ, List.map_append]
  congr 1
  · apply List.map_congr_left
    intro i hi
    have : i ≠ k := by have := List.mem_range.1 hi; omega
    rw [upd_ne _ _ this]
  · simp [upd_at]
/-- The slice's cells. -/
theorem Sy.slice {w0 w : World} {p b : Nat} {X : List (Nat × Obj)} {s : St} {k : Nat} {G : Nat → Nat} {f : Nat → Ho} {v : Value} (H : Sy w0 w p b X s k G f v) (hk : 0 < k) :
    ∃ q c, v = .slice (some ⟨q, 0, none⟩) k c ∧ k ≤ c ∧ c ≤ maxLen ∧ ∀ i, i < k → w.cell? ⟨q, i, none⟩ = some (ptr (G i)) := by
  obtain ⟨_, ⟨rfl, h0⟩ | ⟨g, cap, cur, rfl, hb, hh, hc, hm, hs, ht⟩⟩ := H.own
  · omega
  · refine ⟨g, cap, rfl, hc, hm, fun i hi => ?_⟩
    have e : cur[i]? = some (ptr (G i)) := by
      have h1 : (cur.toList.take (k * 1))[i]? = (ptrs k G)[i]? := by rw [ht]
      rw [List.getElem?_take, if_pos (by omega), Array.getElem?_toList] at h1
      rw [h1]
      simp [ptrs, hi]
    exact cell_of hh e
theorem Sy.len {w0 w : World} {p b : Nat} {X : List (Nat × Obj)} {s : St} {k : Nat} {G : Nat → Nat} {f : Nat → Ho} {v : Value} (H : Sy w0 w p b X s k G f v) : ∃ q c, v = .slice q k c := by
  obtain ⟨_, ⟨rfl, h0⟩ | ⟨g, cap, cur, rfl, _⟩⟩ := H.own
  · subst h0; exact ⟨_, _, rfl⟩
  · exact ⟨_, _, rfl⟩
/-- One holder more: it is new, and laid behind the others. -/
theorem Sy.push {w0 w w2 w3 : World} {p b g : Nat} {X : List (Nat × Obj)} {s : St} {k : Nat} {G : Nat → Nat} {f : Nat → Ho} {v v' : Value} {x : Ho} (H : Sy w0 w p b X s k G f v)
    (K : Below w.heap.size w w2) (hg : w.heap.size ≤ g) (hW : IsHo w2 g x) (hown : w3.ownsRow w0.heap.size 39 1 v' (k + 1) (ptrs k G ++ [ptr g])) (hgr : w2.grownBy w3 v.ownBlock) (hv : v'.ownBlock = v.ownBlock ∨ v'.ownBlock = some w2.heap.size) :
    Sy w0 w3 p b X s (k + 1) (upd G k g) (upd f k x) v' := by
  have H2 := H.below K
  have hlg := hW.lt
  have u := H.mem.lt
  have kG : ∀ i, i < k → G i < w.heap.size := fun i hi => (H.ho i hi).lt
  have hvlt : ∀ q, v.ownBlock = some q → q < w.heap.size := fun q hq => (owns_lt H.own hq).1
  have keep : ∀ j, j < w2.heap.size → v.ownBlock ≠ some j → w3.heap[j]? = w2.heap[j]? := fun j hj hne => hgr.block j hj (fun e => hne e.symm)
  have gv : v.ownBlock ≠ some g := fun e => by have := hvlt g e; omega
  have vne : ∀ j, j < w2.heap.size → v.ownBlock ≠ some j → v'.ownBlock ≠ some j := by
    intro j hj hne e
    rcases hv with h | h
    · exact hne (h ▸ e)
    · rw [h] at e
      have : w2.heap.size = j := by simpa using e
      omega
  have ks := K.size
  refine ⟨H2.mem.keep (keep _ H2.mem.lt.1 H.vp) (keep _ H2.mem.lt.2 H.vb), ?_, ?_, ?_, ?_, H.p0, H.b0, ?_, ?_, ?_, ?_, vne _ H2.mem.lt.1 H.vp, vne _ H2.mem.lt.2 H.vb, ?_⟩
  · intro i hi
    by_cases e : i = k
    · subst e; rw [upd_at, upd_at]; exact hW.keep (keep _ hlg gv)
    · rw [upd_ne _ _ e, upd_ne _ _ e]
      exact (H2.ho i (by omega)).keep (keep _ (H2.ho i (by omega)).lt (H.vG i (by omega)))
  · rw [ptrs_snoc]; exact hown
  · intro e he
    obtain ⟨f1, f2, f3⟩ := H2.fix e he
    have l1 := lt_of_block (H.fix e he).1
    refine ⟨(keep _ (lt_of_block f1) f2.nv).trans f1, ⟨f2.np, f2.nb, ?_, vne _ (by omega) f2.nv⟩, f3⟩
    intro i hi
    by_cases e' : i = k
    · subst e'; rw [upd_at]; omega
    · rw [upd_ne _ _ e']; exact f2.nG i (by omega)
  · exact H2.bel.grown hgr H2.bel.size (fun j e => (owns_lt H.own e).2)
  · intro i hi
    by_cases e : i = k
    · subst e; rw [upd_at]; have := H.bel.size; omega
    · rw [upd_ne _ _ e]; exact H.G0 i (by omega)
  · intro i hi
    by_cases e : i = k
    · subst e; rw [upd_at]; omega
    · rw [upd_ne _ _ e]; exact H.Gp i (by omega)
  · intro i hi
    by_cases e : i = k
    · subst e; rw [upd_at]; omega
    · rw [upd_ne _ _ e]; exact H.Gb i (by omega)
  · intro i j hi hj hij
    by_cases e : i = k
    · subst e
      rw [upd_at, upd_ne _ _ (Ne.symm hij)]
      have := kG j (by omega); omega
    · by_cases e' : j = k
      · subst e'
        rw [upd_at, upd_ne _ _ e]
        have := kG i (by omega); omega
      · rw [upd_ne _ _ e, upd_ne _ _ e']
        exact H.inj i j (by omega) (by omega) hij
  · intro i hi
    by_cases e : i = k
    · subst e; rw [upd_at]; exact vne _ hlg gv
    · rw [upd_ne _ _ e]
      exact vne _ (H2.ho i (by omega)).lt (H.vG i (by omega))
end Go.Proofs.Ytidgajjahpbbdaa
