/- Many of one kind, in a slice that is lengthened one by one: what is known of memory; the case's own block. Of no function; no conditions. -/
import Derived.Test.YtmglacaikpcjhaaR7
import Derived.Test.YtmglacaikpcjhaaKit3
import Derived.Deep.AppendLies
import Derived.Maps.AppendAt
namespace Go.Proofs.Ytmglacaikpcjhaa
open Go.RowKit

def put {α : Type} (f : Nat → α) (i : Nat) (x : α) : Nat → α := fun j => if j = i then x else f j
theorem put_at {α : Type} (f : Nat → α) (i : Nat) (x : α) : put f i x i = x := by simp [put]
theorem put_ne {α : Type} (f : Nat → α) {i j : Nat} (x : α) (h : j ≠ i) : put f i x j = f j := by simp [put, h]
def ptr (g : Nat) : Value := .pointer (some ⟨g, 0, none⟩)
def ptrs (k : Nat) (G : Nat → Nat) : List Value := (List.range k).map fun i => ptr (G i)
theorem ptrs_len (k : Nat) (G : Nat → Nat) : (ptrs k G).length = k := by simp [ptrs]
theorem ptrs_snoc (k : Nat) (G : Nat → Nat) (g : Nat) : ptrs (k + 1) (put G k g) = ptrs k G ++ [ptr g] := by
  unfold ptrs
  rw [List.range_succ, List.map_append]
  congr 1
  · apply List.map_congr_left
    intro i hi
    have : i ≠ k := by have := List.mem_range.1 hi; omega
    rw [put_ne _ _ this]
  · simp [put_at]

/-- k blocks of type t, of the cells c (f i); a slice v of pointers (of type e) to them. -/
structure Fam {α : Type} (e t : TypeId) (c : α → Array Value) (base : Nat) (w : World) (k : Nat) (G : Nat → Nat) (f : Nat → α) (v : Value) : Prop where
  pr : ∀ i, i < k → w.heap[G i]? = some (.cells (c (f i)) t (0, 0))
  own : w.ownsRow base e 1 v k (ptrs k G)
  G0 : ∀ i, i < k → base ≤ G i
  inj : ∀ i j, i < k → j < k → i ≠ j → G i ≠ G j
  vG : ∀ i, i < k → v.ownBlock ≠ some (G i)
/-- The blocks of all that. -/
def InF (k : Nat) (G : Nat → Nat) (v : Value) (q : Nat) : Prop := (∃ i, i < k ∧ q = G i) ∨ v.ownBlock = some q

theorem own_keep {t : TypeId} {w w' : World} {base : Nat} {v : Value} {k : Nat} {xs : List Value} (h : w.ownsRow base t 1 v k xs) (e : ∀ q, v.ownBlock = some q → w'.heap[q]? = w.heap[q]?) : w'.ownsRow base t 1 v k xs := by
  obtain ⟨h1, h2 | ⟨g, cap, cur, rfl, hb, hh, h3⟩⟩ := h
  · exact ⟨h1, Or.inl h2⟩
  · exact ⟨h1, Or.inr ⟨g, cap, cur, rfl, hb, (e g rfl).trans hh, h3⟩⟩
theorem own_lt {t : TypeId} {w : World} {base : Nat} {v : Value} {k : Nat} {xs : List Value} (h : w.ownsRow base t 1 v k xs) {q : Nat} (hq : v.ownBlock = some q) : q < w.heap.size ∧ base ≤ q := by
  obtain ⟨_, ⟨rfl, _⟩ | ⟨g, cap, cur, rfl, hb, hh, _⟩⟩ := h
  · cases hq
  · obtain rfl : g = q := by simpa [Value.ownBlock] using hq
    exact ⟨lt_of_block hh, hb⟩
section
variable {α : Type} {e t : TypeId} {c : α → Array Value} {base : Nat} {w w' : World} {k : Nat} {G : Nat → Nat} {f : Nat → α} {v : Value}
theorem Fam.lt (H : Fam e t c base w k G f v) {q : Nat} (h : InF k G v q) : q < w.heap.size ∧ base ≤ q := by
  rcases h with ⟨i, hi, rfl⟩ | h
  · exact ⟨lt_of_block (H.pr i hi), H.G0 i hi⟩
  · exact own_lt H.own h
theorem Fam.keep (H : Fam e t c base w k G f v) (h : ∀ q, InF k G v q → w'.heap[q]? = w.heap[q]?) : Fam e t c base w' k G f v :=
  { H with pr := fun i hi => (h _ (Or.inl ⟨i, hi, rfl⟩)).trans (H.pr i hi), own := own_keep H.own (fun q hq => h q (Or.inr hq)) }
theorem Fam.below (H : Fam e t c base w k G f v) (K : Below w.heap.size w w') : Fam e t c base w' k G f v :=
  H.keep fun _ hq => K.block _ (H.lt hq).1
theorem Fam.step (H : Fam e t c base w k G f v) {i : Nat} (hi : i < k) {x : α} (hx : w'.heap[G i]? = some (.cells (c x) t (0, 0))) (h : ∀ q, InF k G v q → q ≠ G i → w'.heap[q]? = w.heap[q]?) : Fam e t c base w' k G (put f i x) v :=
  { H with
    pr := fun j hj => by
      by_cases q : j = i
      · subst q; rw [put_at]; exact hx
      · rw [put_ne _ _ q]; exact (h _ (Or.inl ⟨j, hj, rfl⟩) (H.inj j i hj hi q)).trans (H.pr j hj)
    own := own_keep H.own (fun q hq => h q (Or.inr hq) (fun e => H.vG i hi (e ▸ hq))) }
theorem Fam.nil (e t : TypeId) (c : α → Array Value) (base : Nat) (w : World) (G : Nat → Nat) (f : Nat → α) : Fam e t c base w 0 G f (.slice none 0 0) :=
  ⟨fun i hi => absurd hi (by omega), ⟨rfl, Or.inl ⟨rfl, rfl⟩⟩, fun i hi => absurd hi (by omega), fun i j hi => absurd hi (by omega), fun i hi => absurd hi (by omega)⟩
/-- The slice's cells. -/
theorem Fam.slice (H : Fam e t c base w k G f v) (hk : 0 < k) :
    ∃ q cp, v = .slice (some ⟨q, 0, none⟩) k cp ∧ k ≤ cp ∧ cp ≤ maxLen ∧ ∀ i, i < k → w.cell? ⟨q, i, none⟩ = some (ptr (G i)) := by
  obtain ⟨_, ⟨rfl, h0⟩ | ⟨g, cap, cur, rfl, hb, hh, hc, hm, hs, ht⟩⟩ := H.own
  · omega
  · refine ⟨g, cap, rfl, hc, hm, fun i hi => ?_⟩
    have e : cur[i]? = some (ptr (G i)) := by
      have h1 : (cur.toList.take (k * 1))[i]? = (ptrs k G)[i]? := by rw [ht]
      rw [List.getElem?_take, if_pos (by omega), Array.getElem?_toList] at h1
      rw [h1]
      simp [ptrs, hi]
    exact cell_of hh e
theorem Fam.len (H : Fam e t c base w k G f v) : ∃ q cp, v = .slice q k cp := by
  obtain ⟨_, ⟨rfl, h0⟩ | ⟨g, cap, cur, rfl, _⟩⟩ := H.own
  · subst h0; exact ⟨_, _, rfl⟩
  · exact ⟨_, _, rfl⟩
/-- One more: it is new, and laid behind the others. -/
theorem Fam.push {w2 w3 : World} {g : Nat} {v' : Value} {x : α} (H : Fam e t c base w k G f v)
    (K : Below w.heap.size w w2) (hg : w.heap.size ≤ g) (hb : base ≤ w.heap.size) (hW : w2.heap[g]? = some (.cells (c x) t (0, 0))) (hown : w3.ownsRow base e 1 v' (k + 1) (ptrs k G ++ [ptr g])) (hgr : w2.grownBy w3 v.ownBlock) (hv : v'.ownBlock = v.ownBlock ∨ v'.ownBlock = some w2.heap.size) :
    Fam e t c base w3 (k + 1) (put G k g) (put f k x) v' := by
  have H2 := H.below K
  have hlg := lt_of_block hW
  have kG : ∀ i, i < k → G i < w.heap.size := fun i hi => lt_of_block (H.pr i hi)
  have hvlt : ∀ q, v.ownBlock = some q → q < w.heap.size := fun q hq => (own_lt H.own hq).1
  have kp : ∀ j, j < w2.heap.size → v.ownBlock ≠ some j → w3.heap[j]? = w2.heap[j]? := fun j hj hne => hgr.block j hj (fun e => hne e.symm)
  have gv : v.ownBlock ≠ some g := fun e => by have := hvlt g e; omega
  have vne : ∀ j, j < w2.heap.size → v.ownBlock ≠ some j → v'.ownBlock ≠ some j := by
    intro j hj hne e
    rcases hv with h | h
    · exact hne (h ▸ e)
    · rw [h] at e
      have : w2.heap.size = j := by simpa using e
      omega
  refine ⟨?_, ?_, ?_, ?_, ?_⟩
  · intro i hi
    by_cases e : i = k
    · subst e; rw [put_at, put_at]; exact (kp _ hlg gv).trans hW
    · rw [put_ne _ _ e, put_ne _ _ e]
      exact (kp _ (lt_of_block (H2.pr i (by omega))) (H.vG i (by omega))).trans (H2.pr i (by omega))
  · rw [ptrs_snoc]; exact hown
  · intro i hi
    by_cases e : i = k
    · subst e; rw [put_at]; omega
    · rw [put_ne _ _ e]; exact H.G0 i (by omega)
  · intro i j hi hj hij
    by_cases e : i = k
    · subst e
      rw [put_at, put_ne _ _ (Ne.symm hij)]
      have := kG j (by omega); omega
    · by_cases e' : j = k
      · subst e'
        rw [put_at, put_ne _ _ e]
        have := kG i (by omega); omega
      · rw [put_ne _ _ e, put_ne _ _ e']
        exact H.inj i j (by omega) (by omega) hij
  · intro i hi
    by_cases e : i = k
    · subst e; rw [put_at]; exact vne _ hlg gv
    · rw [put_ne _ _ e]
      exact vne _ (lt_of_block (H2.pr i (by omega))) (H.vG i (by omega))
/-- The blocks behind that: those from ahead, or new ones. -/
theorem inF_push {w2 : World} {g : Nat} {v' : Value} (hv : v'.ownBlock = v.ownBlock ∨ v'.ownBlock = some w2.heap.size) {q : Nat} (h : InF (k + 1) (put G k g) v' q) : InF k G v q ∨ q = g ∨ q = w2.heap.size := by
  rcases h with ⟨i, hi, rfl⟩ | h
  · by_cases e : i = k
    · subst e; rw [put_at]; exact Or.inr (Or.inl rfl)
    · rw [put_ne _ _ e]; exact Or.inl (Or.inl ⟨i, by omega, rfl⟩)
  · rcases hv with e | e
    · exact Or.inl (Or.inr (e ▸ h))
    · rw [e] at h
      exact Or.inr (Or.inr (by simpa using h.symm))
end

theorem info36 : ∃ i, Try.prog.info? 36 = some i ∧ i.zero = some (.pointer none) ∧ i.size = 1 ∧ i.bytes = 8 := by
  have h : (Try.prog.info? 36).map (fun i => (i.zero, i.size, i.bytes)) = some (some (.pointer none), 1, 8) := by kernel_rfl
  obtain ⟨i, hi, hzz⟩ := Option.map_eq_some_iff.1 h
  simp only [Prod.mk.injEq] at hzz
  exact ⟨i, hi, hzz.1, hzz.2.1, hzz.2.2⟩
theorem info42 : ∃ i, Try.prog.info? 42 = some i ∧ i.zero = some (.pointer none) ∧ i.size = 1 ∧ i.bytes = 8 := by
  have h : (Try.prog.info? 42).map (fun i => (i.zero, i.size, i.bytes)) = some (some (.pointer none), 1, 8) := by kernel_rfl
  obtain ⟨i, hi, hzz⟩ := Option.map_eq_some_iff.1 h
  simp only [Prod.mk.injEq] at hzz
  exact ⟨i, hi, hzz.1, hzz.2.1, hzz.2.2⟩
theorem one_cell (w : World) (g : Nat) (e : TypeId) : ∀ (j : Nat) (u : Value), [ptr g][j]? = some u → (w.alloc (.cells #[.pointer (some ⟨g, 0, none⟩)] e)).cell? ((⟨w.heap.size, 0, none⟩ : Addr).add j) = some u := by
  intro j u hj
  rcases j with _ | j
  · obtain rfl : ptr g = u := by simpa using hj
    exact cell_of (heap_alloc_new w (.cells #[.pointer (some ⟨g, 0, none⟩)] e (0, 0))) rfl
  · simp at hj
theorem one_plain (g : Nat) : ∀ u ∈ [ptr g], u.oneCell' = true := by
  intro u hu
  obtain rfl := List.mem_singleton.1 hu
  rfl
theorem zkeep {w w' : World} (h : Below w.heap.size w w') (o : Obj) : Below w.heap.size w (w'.alloc o) := h.alloc h.size o
theorem Fam.at {α : Type} {e t : TypeId} {c : α → Array Value} {base : Nat} {w : World} {k : Nat} {G : Nat → Nat} {f : Nat → α} {vq : Option Addr} {vc : Nat} (H : Fam e t c base w k G f (.slice vq k vc)) (hk : 0 < k) :
    ∃ q, vq = some ⟨q, 0, none⟩ ∧ vc ≤ maxLen ∧ k ≤ vc ∧ ∀ i, i < k → w.cell? ⟨q, i, none⟩ = some (.pointer (some ⟨G i, 0, none⟩)) := by
  obtain ⟨q, cp, e1, h1, h2, h3⟩ := H.slice hk
  simp only [Value.slice.injEq] at e1
  obtain ⟨rfl, _, rfl⟩ := e1
  exact ⟨q, rfl, h2, h1, h3⟩
theorem one_cell2 (w : World) (g : Nat) (e t : TypeId) (cs : Array Value) : ∀ (j : Nat) (u : Value), [ptr g][j]? = some u → ((w.alloc (.cells cs t)).alloc (.cells #[.pointer (some ⟨g, 0, none⟩)] e)).cell? ((⟨w.heap.size + 1, 0, none⟩ : Addr).add j) = some u := by
  have := one_cell (w.alloc (.cells cs t)) g e
  simpa using this
/-- The case's own block. -/
structure Bx (W : World) (q : Nat) (c : Cs) : Prop where
  c0 : W.cell? ⟨q, 0, none⟩ = some (.int .u8 c.za)
  c1 : W.cell? ⟨q, 1, none⟩ = some (.int .u8 c.zs)
  c2 : W.cell? ⟨q, 2, none⟩ = some (.slice c.vq c.vn c.vc)
  c3 : W.cell? ⟨q, 3, none⟩ = some (.int .u8 c.zp)
  c4 : W.cell? ⟨q, 4, none⟩ = some (.slice c.pq c.pn c.pc)
  c5 : W.cell? ⟨q, 5, none⟩ = some (.int .u8 c.zw)
  lt : q < W.heap.size
theorem Bx.new (w : World) (c : Cs) : Bx (w.alloc (.cells (csC c) 24)) w.heap.size c := by
  have h := heap_alloc_new w (.cells (csC c) 24 (0, 0))
  exact ⟨cell_of h rfl, cell_of h rfl, cell_of h rfl, cell_of h rfl, cell_of h rfl, cell_of h rfl, lt_of_block h⟩
theorem Bx.below {W W' : World} {q : Nat} {c : Cs} (h : Bx W q c) (k : Below W.heap.size W W') : Bx W' q c :=
  ⟨(k.cell (p := ⟨q, 0, none⟩) h.lt).trans h.c0, (k.cell (p := ⟨q, 1, none⟩) h.lt).trans h.c1, (k.cell (p := ⟨q, 2, none⟩) h.lt).trans h.c2, (k.cell (p := ⟨q, 3, none⟩) h.lt).trans h.c3, (k.cell (p := ⟨q, 4, none⟩) h.lt).trans h.c4, (k.cell (p := ⟨q, 5, none⟩) h.lt).trans h.c5, Nat.lt_of_lt_of_le h.lt k.size⟩
theorem CsOk.below {W W' : World} {c : Cs} {f z : Nat → Nat} (h : CsOk W c f z) (k : Below W.heap.size W W') : CsOk W' c f z := by
  refine { h with nl := ⟨h.nl.1, h.nl.2.1, fun hn => ?_⟩, pl := ⟨h.pl.1, h.pl.2.1, fun hn => ?_⟩ }
  · obtain ⟨b, off, e, h1, h2⟩ := h.nl.2.2 hn
    exact ⟨b, off, e, Nat.lt_of_lt_of_le h1 k.size, fun i hi => (k.cell (p := ⟨b, off + i, none⟩) h1).trans (h2 i hi)⟩
  · obtain ⟨b, off, e, h1, h2⟩ := h.pl.2.2 hn
    exact ⟨b, off, e, Nat.lt_of_lt_of_le h1 k.size, fun i hi => (k.cell (p := ⟨b, off + i, none⟩) h1).trans (h2 i hi)⟩
theorem bel_q0 {q : Nat} {w W w' : World} (h : Below q w W) (e : w.heap.size = q) (k : Below W.heap.size W w') : Below w.heap.size w w' := by
  subst e
  exact bel_trans h k
end Go.Proofs.Ytmglacaikpcjhaa
