/- Holders, and beside them a list of the tickets that have been held. Of no function; no conditions. -/
import Derived.Test.YtidgajjahpbbdaaY5
namespace Go.Proofs.Ytidgajjahpbbdaa
open Go.RowKit

/-- A block of the words, of a holder, or of their slice. -/
def Sy.In (p b k : Nat) (G : Nat → Nat) (v : Value) (q : Nat) : Prop := q = p ∨ q = b ∨ (∃ i, i < k ∧ q = G i) ∨ v.ownBlock = some q
theorem Sy.keep {w0 w w' : World} {p b : Nat} {s : St} {k : Nat} {G : Nat → Nat} {f : Nat → Ho} {v : Value} (H : Sy w0 w p b [] s k G f v) (hb : ∀ q, q < w.heap.size → Sy.In p b k G v q → w'.heap[q]? = w.heap[q]?) (hB : Below w0.heap.size w0 w') : Sy w0 w' p b [] s k G f v :=
  { H with mem := H.mem.keep (hb _ H.mem.lt.1 (Or.inl rfl)) (hb _ H.mem.lt.2 (Or.inr (Or.inl rfl)))
           ho := fun i hi => (H.ho i hi).keep (hb _ (H.ho i hi).lt (Or.inr (Or.inr (Or.inl ⟨i, hi, rfl⟩))))
           own := owns_keep H.own (fun q hq => hb q (owns_lt H.own hq).1 (Or.inr (Or.inr (Or.inr hq))))
           fix := fun e he => absurd he (by simp)
           bel := hB }
theorem own_keep {t : TypeId} {w w' : World} {base : Nat} {v : Value} {k : Nat} {xs : List Value} (h : w.ownsRow base t 1 v k xs) (e : ∀ q, v.ownBlock = some q → w'.heap[q]? = w.heap[q]?) : w'.ownsRow base t 1 v k xs := by
  obtain ⟨h1, h2 | ⟨g, cap, cur, rfl, hb, hh, h3⟩⟩ := h
  · exact ⟨h1, Or.inl h2⟩
  · exact ⟨h1, Or.inr ⟨g, cap, cur, rfl, hb, (e g rfl).trans hh, h3⟩⟩
theorem own_lt {t : TypeId} {w : World} {base : Nat} {v : Value} {k : Nat} {xs : List Value} (h : w.ownsRow base t 1 v k xs) {q : Nat} (hq : v.ownBlock = some q) : q < w.heap.size ∧ base ≤ q := by
  obtain ⟨_, ⟨rfl, _⟩ | ⟨g, cap, cur, rfl, hb, hh, _⟩⟩ := h
  · cases hq
  · obtain rfl : g = q := by simpa [Value.ownBlock] using hq
    exact ⟨lt_of_block hh, hb⟩

/-- The numbers 0 to m - 1. -/
def ups (m : Nat) : List Value := (List.range m).map fun (i : Nat) => Value.int .u64 (i : Int)
theorem ups_snoc (m : Nat) : ups (m + 1) = ups m ++ [.int .u64 (m : Int)] := by
  unfold ups; rw [List.range_succ, List.map_append]; rfl

structure Oo (w0 w : World) (p b c : Nat) (n s d l m : Int) (k : Nat) (G : Nat → Nat) (f : Nat → Ho) (v : Value) (mo : Nat) (u : Value) : Prop where
  od : Od w0 w p b c n s d l m k G f v
  ord : w.ownsRow w0.heap.size 36 1 u mo (ups mo)
  ap : ∀ q, u.ownBlock = some q → ¬ Sy.In p b k G v q
theorem Oo.below {w0 w w' : World} {p b c : Nat} {n s d l m : Int} {k : Nat} {G : Nat → Nat} {f : Nat → Ho} {v : Value} {mo : Nat} {u : Value} (H : Oo w0 w p b c n s d l m k G f v mo u) (K : Below w.heap.size w w') : Oo w0 w' p b c n s d l m k G f v mo u :=
  ⟨H.od.below K, own_keep H.ord (fun _ hq => K.block _ (own_lt H.ord hq).1), H.ap⟩
theorem Oo.but {w0 w w' : World} {p b c c' : Nat} {n s d l m n' s' d' l' m' : Int} {k : Nat} {G : Nat → Nat} {f f' : Nat → Ho} {v : Value} {mo : Nat} {u : Value} (H : Oo w0 w p b c n s d l m k G f v mo u) (i : Nat) (hi : i < k) (K : But3 (G i) p b w w') (H' : Od w0 w' p b c' n' s' d' l' m' k G f' v) : Oo w0 w' p b c' n' s' d' l' m' k G f' v mo u :=
  ⟨H', own_keep H.ord (fun q hq => K.block _ (own_lt H.ord hq).1 (fun e => H.ap q hq (Or.inr (Or.inr (Or.inl ⟨i, hi, e⟩)))) (fun e => H.ap q hq (Or.inl e)) (fun e => H.ap q hq (Or.inr (Or.inl e)))), H.ap⟩
theorem Oo.leave {w0 w w' : World} {p b c : Nat} {n s d l m : Int} {k : Nat} {G : Nat → Nat} {f : Nat → Ho} {v : Value} {mo : Nat} {u : Value} (H : Oo w0 w p b c n s d l m k G f v mo u) (i : Nat) (hi : i < k) (K : IsHo w' (G i) (lvT (f i)) ∧ But (G i) (G i) w w') : Oo w0 w' p b c n s d l m k G (upd f i (lvT (f i))) v mo u :=
  H.but i hi (But3.of_one K.2) (H.od.leave i hi K)
theorem Oo.step {w0 w w' : World} {p b c : Nat} {n s d l m : Int} {k : Nat} {G : Nat → Nat} {f : Nat → Ho} {v : Value} {mo : Nat} {u : Value} (H : Oo w0 w p b c n s d l m k G f v mo u) (hk : k ≤ 1000) (i : Nat) (hi : i < k) (K : Hs w' p b (G i) (hT (s4 n s d l) (f i)) (hX (s4 n s d l) (f i)) ∧ But3 (G i) p b w w') :
    ∃ n' s' d' l', Oo w0 w' p b (c + 1) n' s' d' l' (if newly (f i) (hX (s4 n s d l) (f i)) = true then m + 1 else m) k G (upd f i (hX (s4 n s d l) (f i))) v mo u ∧ (newly (f i) (hX (s4 n s d l) (f i)) = true → (hX (s4 n s d l) (f i)).tk = m) := by
  obtain ⟨n', s', d', l', h, h2⟩ := H.od.step hk i hi K
  exact ⟨n', s', d', l', H.but i hi K.2 h, h2⟩
theorem Oo.load {w0 w w' : World} {p b c : Nat} {n s d l m : Int} {k : Nat} {G : Nat → Nat} {f : Nat → Ho} {v : Value} {mo : Nat} {u : Value} (H : Oo w0 w p b c n s d l m k G f v mo u) (hk : 0 < k) (a : Int) (h0 : 0 ≤ a) (h1 : a < 4) (K : Turns 59 p b w w' (loadT (s4 n s d l) a)) : Oo w0 w' p b (c + 1) n s (d + 1) l m k G f v mo u :=
  H.but 0 hk (But3.of_but K.2) (H.od.load a h0 h1 K)
theorem Oo.push {w0 w w2 w3 : World} {p b c : Nat} {n s d l m : Int} {k : Nat} {G : Nat → Nat} {f : Nat → Ho} {v : Value} {mo : Nat} {u u' : Value} (H : Oo w0 w p b c n s d l m k G f v mo u) (K : Below w.heap.size w w2)
    (hown : w3.ownsRow w0.heap.size 36 1 u' (mo + 1) (ups mo ++ [.int .u64 (mo : Int)])) (hgr : w2.grownBy w3 u.ownBlock) (hu : u'.ownBlock = u.ownBlock ∨ u'.ownBlock = some w2.heap.size) :
    Oo w0 w3 p b c n s d l m k G f v (mo + 1) u' := by
  have H2 := H.below K
  have hIn : ∀ q, Sy.In p b k G v q → q < w2.heap.size := by
    rintro q (rfl | rfl | ⟨i, hi, rfl⟩ | hq)
    · exact H2.od.sy.mem.lt.1
    · exact H2.od.sy.mem.lt.2
    · exact (H2.od.sy.ho i hi).lt
    · exact (owns_lt H2.od.sy.own hq).1
  refine ⟨⟨H2.od.sy.keep (fun q hq hi => hgr.block q hq (fun e => H.ap q e.symm hi)) (H2.od.sy.bel.grown hgr H2.od.sy.bel.size (fun j e => (own_lt H.ord e).2)), H.od.to, H.od.cnt⟩, by rw [ups_snoc]; exact hown, fun q hq hi => ?_⟩
  rcases hu with h | h
  · exact H.ap q (h ▸ hq) hi
  · rw [h] at hq
    have e : w2.heap.size = q := by simpa using hq
    have := hIn q hi
    omega
theorem Oo.first {w0 w : World} {p b : Nat} {k : Nat} {G : Nat → Nat} {f : Nat → Ho} {v : Value} (H : Od w0 w p b 0 0 0 0 0 0 k G f v) : Oo w0 w p b 0 0 0 0 0 ((0 : Nat) : Int) k G f v 0 (.slice none 0 0) :=
  ⟨H, ⟨rfl, Or.inl ⟨rfl, rfl⟩⟩, fun q hq => by cases hq⟩
theorem Oo.mono {w0 w : World} {p b c c' : Nat} {n s d l m : Int} {k : Nat} {G : Nat → Nat} {f : Nat → Ho} {v : Value} {mo : Nat} {u : Value} (H : Oo w0 w p b c n s d l m k G f v mo u) (h : c ≤ c') : Oo w0 w p b c' n s d l m k G f v mo u := ⟨H.od.mono h, H.ord, H.ap⟩
/-- The list's length and cells. -/
theorem own_len {t : TypeId} {w : World} {base : Nat} {v : Value} {k : Nat} {xs : List Value} (h : w.ownsRow base t 1 v k xs) : ∃ q c, v = .slice q k c ∧ k ≤ maxLen := by
  obtain ⟨_, ⟨rfl, h0⟩ | ⟨g, cap, cur, rfl, _, _, hc, hm, _⟩⟩ := h
  · subst h0; exact ⟨_, _, rfl, Nat.zero_le _⟩
  · exact ⟨_, _, rfl, Nat.le_trans hc hm⟩
theorem own_cells {t : TypeId} {w : World} {base : Nat} {v : Value} {k : Nat} {xs : List Value} (h : w.ownsRow base t 1 v k xs) (hk : 0 < k) : ∃ q c, v = .slice (some ⟨q, 0, none⟩) k c ∧ ∀ i, i < k → w.cell? ⟨q, i, none⟩ = xs[i]? := by
  obtain ⟨hl, ⟨rfl, h0⟩ | ⟨g, cap, cur, rfl, _, hh, hc, hm, hs, ht⟩⟩ := h
  · omega
  · refine ⟨g, cap, rfl, fun i hi => ?_⟩
    have h1 : (cur.toList.take (k * 1))[i]? = xs[i]? := by rw [ht]
    rw [List.getElem?_take, if_pos (by omega), Array.getElem?_toList] at h1
    have hi2 : i < xs.length := by omega
    obtain ⟨x, hx⟩ : ∃ x, xs[i]? = some x := ⟨_, List.getElem?_eq_getElem hi2⟩
    rw [hx] at h1 ⊢
    exact cell_of hh h1
theorem ups_at {m i : Nat} (h : i < m) : (ups m)[i]? = some (.int .u64 (i : Int)) := by simp [ups, h]

def pHolds (x : Ho) : Bool := x.st == 2
theorem TI.one {k : Nat} {f : Nat → Ho} {n s : Int} (H : TI k f n s) : ∀ a, a ≤ k → cntP pHolds f a = 0 ∨ (cntP pHolds f a = 1 ∧ ∃ i, i < a ∧ (f i).st = 2)
  | 0, _ => Or.inl rfl
  | a + 1, ha => by
    by_cases e : (f a).st = 2
    · have p1 : pHolds (f a) = true := by unfold pHolds; rw [e]; rfl
      have c1 : cntP pHolds f (a + 1) = cntP pHolds f a + 1 := by
        show cntP pHolds f a + (if pHolds (f a) = true then 1 else 0) = _
        rw [p1]; rfl
      rcases H.one a (by omega) with h | ⟨_, i, hi, h2⟩
      · exact Or.inr ⟨by rw [c1, h], a, by omega, e⟩
      · have a1 := H.h i (by omega) h2
        have a2 := H.h a (by omega) e
        exact absurd (a1.trans a2.symm) (H.dis i a (by omega) (by omega) (by omega) (by omega) (by omega))
    · have p1 : pHolds (f a) = false := by unfold pHolds; exact beq_eq_false_iff_ne.2 e
      have c1 : cntP pHolds f (a + 1) = cntP pHolds f a := by
        show cntP pHolds f a + (if pHolds (f a) = true then 1 else 0) = _
        rw [p1]; rfl
      rcases H.one a (by omega) with h | ⟨h1, i, hi, h2⟩
      · exact Or.inl (by rw [c1, h])
      · exact Or.inr ⟨by rw [c1, h1], i, by omega, h2⟩
theorem info36' : ∃ i, Try.prog.info? 36 = some i ∧ i.zero = some (.int .u64 0) ∧ i.size = 1 ∧ i.bytes = 8 := by
  have h : (Try.prog.info? 36).map (fun i => (i.zero, i.size, i.bytes)) = some (some (.int .u64 0), 1, 8) := by kernel_rfl
  obtain ⟨i, hi, hzz⟩ := Option.map_eq_some_iff.1 h
  simp only [Prod.mk.injEq] at hzz
  exact ⟨i, hi, hzz.1, hzz.2.1, hzz.2.2⟩
theorem one_int (x : Int) : ∀ u ∈ [(Value.int .u64 x)], u.oneCell' = true := by
  intro u hu
  obtain rfl := List.mem_singleton.1 hu
  rfl
end Go.Proofs.Ytidgajjahpbbdaa
