/- Many writers and two readers: what is known of memory, and of words and values, while they go on. Of no function but whole; no conditions but that the number is small. -/
import Derived.Test.YtkdgjgbmbdmmfaaY5
import Derived.Test.YtkdgjgbmbdmmfaaL6
namespace Go.Proofs.Ytkdgjgbmbdmmfaa
open Go.RowKit

/-- Words, writers, and two readers. -/
structure Sr (w0 w : World) (p b : Nat) (X : List (Nat × Obj)) (s : St) (k : Nat) (G : Nat → Nat) (f : Nat → Wr) (v : Value) (h1 h2 : Nat) (r1 r2 : Rd) : Prop where
  sy : Sy w0 w p b X s k G f v
  rd1 : IsRd w h1 r1
  rd2 : IsRd w h2 r2
  ap1 : Ap p b k G v h1
  ap2 : Ap p b k G v h2
  ax1 : ∀ e ∈ X, h1 ≠ e.1
  ax2 : ∀ e ∈ X, h2 ≠ e.1
  h01 : w0.heap.size ≤ h1
  h02 : w0.heap.size ≤ h2
  hn : h1 ≠ h2
theorem Sr.below {w0 w w' : World} {p b : Nat} {X : List (Nat × Obj)} {s : St} {k : Nat} {G : Nat → Nat} {f : Nat → Wr} {v : Value} {h1 h2 : Nat} {r1 r2 : Rd} (H : Sr w0 w p b X s k G f v h1 h2 r1 r2) (K : Below w.heap.size w w') : Sr w0 w' p b X s k G f v h1 h2 r1 r2 :=
  { H with sy := H.sy.below K, rd1 := H.rd1.below K, rd2 := H.rd2.below K }
theorem Sr.stepW {w0 w w' : World} {p b : Nat} {X : List (Nat × Obj)} {s s' : St} {k : Nat} {G : Nat → Nat} {f : Nat → Wr} {v : Value} {h1 h2 : Nat} {r1 r2 : Rd} {x' : Wr} (H : Sr w0 w p b X s k G f v h1 h2 r1 r2) (i : Nat) (hi : i < k) (K : Ws w' p b (G i) s' x' ∧ But3 (G i) p b w w') : Sr w0 w' p b X s' k G (upd f i x') v h1 h2 r1 r2 :=
  { H with sy := H.sy.stepW i hi K, rd1 := H.rd1.keep (K.2.block _ H.rd1.lt (H.ap1.nG i hi) H.ap1.np H.ap1.nb), rd2 := H.rd2.keep (K.2.block _ H.rd2.lt (H.ap2.nG i hi) H.ap2.np H.ap2.nb) }
theorem Sr.step1 {w0 w w' : World} {p b : Nat} {X : List (Nat × Obj)} {s s' : St} {k : Nat} {G : Nat → Nat} {f : Nat → Wr} {v : Value} {h1 h2 : Nat} {r1 r2 r' : Rd} (H : Sr w0 w p b X s k G f v h1 h2 r1 r2) (K : Rs w' p b h1 s' r' ∧ But3 h1 p b w w') : Sr w0 w' p b X s' k G f v h1 h2 r' r2 :=
  { H with sy := H.sy.other H.ap1 H.ax1 H.h01 K.1.mem K.2, rd1 := K.1.rd, rd2 := H.rd2.keep (K.2.block _ H.rd2.lt H.hn.symm H.ap2.np H.ap2.nb) }
theorem Sr.step2 {w0 w w' : World} {p b : Nat} {X : List (Nat × Obj)} {s s' : St} {k : Nat} {G : Nat → Nat} {f : Nat → Wr} {v : Value} {h1 h2 : Nat} {r1 r2 r' : Rd} (H : Sr w0 w p b X s k G f v h1 h2 r1 r2) (K : Rs w' p b h2 s' r' ∧ But3 h2 p b w w') : Sr w0 w' p b X s' k G f v h1 h2 r1 r' :=
  { H with sy := H.sy.other H.ap2 H.ax2 H.h02 K.1.mem K.2, rd2 := K.1.rd, rd1 := H.rd1.keep (K.2.block _ H.rd1.lt H.hn H.ap1.np H.ap1.nb) }
theorem Sr.load {w0 w w' : World} {p b : Nat} {X : List (Nat × Obj)} {s s' : St} {k : Nat} {G : Nat → Nat} {f : Nat → Wr} {v : Value} {h1 h2 : Nat} {r1 r2 : Rd} (H : Sr w0 w p b X s k G f v h1 h2 r1 r2) (K : Turns 56 p b w w' s') : Sr w0 w' p b X s' k G f v h1 h2 r1 r2 :=
  { H with sy := H.sy.load K, rd1 := H.rd1.keep (K.2.block _ H.rd1.lt H.ap1.np H.ap1.nb), rd2 := H.rd2.keep (K.2.block _ H.rd2.lt H.ap2.np H.ap2.nb) }
theorem Sr.rs1 {w0 w : World} {p b : Nat} {X : List (Nat × Obj)} {s : St} {k : Nat} {G : Nat → Nat} {f : Nat → Wr} {v : Value} {h1 h2 : Nat} {r1 r2 : Rd} (H : Sr w0 w p b X s k G f v h1 h2 r1 r2) : Rs w p b h1 s r1 := ⟨H.sy.mem, H.rd1, H.ap1.np, H.ap1.nb⟩
theorem Sr.rs2 {w0 w : World} {p b : Nat} {X : List (Nat × Obj)} {s : St} {k : Nat} {G : Nat → Nat} {f : Nat → Wr} {v : Value} {h1 h2 : Nat} {r1 r2 : Rd} (H : Sr w0 w p b X s k G f v h1 h2 r1 r2) : Rs w p b h2 s r2 := ⟨H.sy.mem, H.rd2, H.ap2.np, H.ap2.nb⟩
theorem Sy.apart {w0 w : World} {p b h : Nat} {X : List (Nat × Obj)} {s : St} {k : Nat} {G : Nat → Nat} {f : Nat → Wr} {v : Value} (H : Sy w0 w p b X s k G f v) (hh : w.heap.size ≤ h) : Ap p b k G v h ∧ (∀ e ∈ X, h ≠ e.1) ∧ w0.heap.size ≤ h := by
  have u := H.mem.lt
  have ub := H.bel.size
  refine ⟨⟨by omega, by omega, fun i hi => ?_, fun e => ?_⟩, fun e he => ?_, by omega⟩
  · have := (H.wr i hi).lt; omega
  · have := (owns_lt H.own e).1; omega
  · have := lt_of_block (H.fix e he).1; omega

/-- What is known of values and numbers. -/
structure Pu (n : Nat) (most : Int) (j c : Nat) (s : St) (k : Nat) (f : Nat → Wr) (r1 r2 : Rd) : Prop where
  bi : BI 5 n s k f
  wi : WI 5 n most s k f
  i1 : RI 5 n most s r1
  i2 : RI 5 n most s r2
  cnt : Cnt s c
  num : s.xs.getD 5 0 ≤ j
  k1 : 0 ≤ r1.k ∧ r1.k ≤ j
  k2 : 0 ≤ r2.k ∧ r2.k ≤ j
theorem Pu.mem {n : Nat} {most : Int} {j c : Nat} {s s' : St} {k : Nat} {f : Nat → Wr} {r1 r2 : Rd} (H : Pu n most j c s k f r1 r2) (h : s'.xs = s.xs) (hc : Cnt s' (c + 1)) : Pu n most j (c + 1) s' k f r1 r2 :=
  ⟨H.bi.mem h, H.wi.mem h, H.i1.mem h, H.i2.mem h, hc, by rw [h]; exact H.num, H.k1, H.k2⟩
theorem Pu.stepW {n : Nat} {most : Int} {j c : Nat} {s : St} {k : Nat} {f : Nat → Wr} {r1 r2 : Rd} (H : Pu n most j c s k f r1 r2) (hj : j ≤ 1000) (i : Nat) (hi : i < k) :
    Pu n most (j + 1) (c + 1) (wS s (f i)).1 k (upd f i (wS s (f i)).2) r1 r2 ∧ s.xs.getD 5 0 ≤ (wS s (f i)).1.xs.getD 5 0 ∧ (wS s (f i)).1.xs.getD 5 0 ≤ s.xs.getD 5 0 + 1 := by
  have hn := H.num
  obtain ⟨b1, b2, b3⟩ := H.bi.step i hi (by omega)
  obtain ⟨w1, w2⟩ := H.wi.step H.bi i hi (by omega)
  have k1 := H.k1
  have k2 := H.k2
  exact ⟨⟨b1, w1, H.i1.stepW b2 w2, H.i2.stepW b2 w2, H.cnt.wS _, by omega, by omega, by omega⟩, b2, b3⟩
theorem Pu.step1 {n : Nat} {most : Int} {j c : Nat} {s : St} {k : Nat} {f : Nat → Wr} {r1 r2 : Rd} (H : Pu n most j c s k f r1 r2) :
    Pu n most (j + 1) (c + 1) (rS s r1).1 k f (rS s r1).2 r2 ∧ (rS s r1).1.xs = s.xs := by
  obtain ⟨a1, a2⟩ := H.i1.stepR H.bi.fit H.wi.ev
  have hk := rS_k s r1 H.k1.1
  have hn := H.num
  have k1 := H.k1
  have k2 := H.k2
  exact ⟨⟨H.bi.mem a2, H.wi.mem a2, a1, H.i2.mem a2, H.cnt.rS _, by rw [a2]; omega, by omega, by omega⟩, a2⟩
theorem Pu.step2 {n : Nat} {most : Int} {j c : Nat} {s : St} {k : Nat} {f : Nat → Wr} {r1 r2 : Rd} (H : Pu n most j c s k f r1 r2) :
    Pu n most (j + 1) (c + 1) (rS s r2).1 k f r1 (rS s r2).2 ∧ (rS s r2).1.xs = s.xs := by
  obtain ⟨a1, a2⟩ := H.i2.stepR H.bi.fit H.wi.ev
  have hk := rS_k s r2 H.k2.1
  have hn := H.num
  have k1 := H.k1
  have k2 := H.k2
  exact ⟨⟨H.bi.mem a2, H.wi.mem a2, H.i1.mem a2, a1, H.cnt.rS _, by rw [a2]; omega, by omega, by omega⟩, a2⟩
theorem RI.mok {n : Nat} {most : Int} {s : St} {r : Rd} {k : Nat} {f : Nat → Wr} (H : RI 5 n most s r) (B : BI 5 n s k f) : MOk s r.x.ad r.x.n := by
  have := B.fit
  rw [H.ad, H.nn]
  exact ⟨by omega, B.rng⟩

/-- What whole returns of a reader of which that is known. -/
theorem whole_at {w : World} {g : Nat} {r : Rd} {s : St} (h : IsRd w g r) (n mo : Nat) (h1 : 1 ≤ n) (h16 : n ≤ 16) (hmo : mo ≤ 1000) (H : RI 5 n mo s r) :
    Calls Try.prog 15 #[.pointer (some ⟨g, 0, none⟩), .int .i64 n, .int .i64 mo] w fun e w' => e = .returned (.bool true) ∧ Below w.heap.size w w' := by
  cases hd : r.d
  · exact whole_no w g n mo (by rw [h.whole, hd])
  · exact whole_yes h n mo H.nn h1 h16 hmo hd (H.fin hd)

theorem wi_first (n L : Nat) (most : Int) (hm : 0 ≤ most) (f : Nat → Wr) : WI 5 n most ⟨List.replicate L 0, 0, 0⟩ 0 f := by
  refine ⟨fun _ => ⟨0, by omega, hm, fun j _ => ?_⟩, fun i hi => absurd hi (by omega), fun i hi => absurd hi (by omega)⟩
  simp only [List.getD, List.getElem?_replicate]
  split <;> rfl
theorem ri_first (n : Nat) (most : Int) (s : St) (h1 : 1 ≤ n) (h16 : n ≤ 16) : RI 5 n most s ⟨⟨5, n, 0, 1 + (n : Int) + 1, 0, List.replicate 16 0⟩, 0, false⟩ := by
  refine ⟨⟨by simp, by simp, by simp only []; omega, by simp only []; omega, by simp, by simp only []; omega, by simp only []; omega⟩, rfl, rfl, rfl, fun h => by simp at h, fun h => by simp at h, fun h => by simp at h⟩
theorem whole_wok (n : Nat) (h1 : 1 ≤ n) (h16 : n ≤ 16) (vs : List Int) : WOk ⟨5, n, 0, 2 + (n : Int) + 1, 0, vs⟩ := wok_new 5 n vs (by decide) (by decide) (by omega) (by omega)
theorem whole_rng (n : Nat) (a : Int) (h0 : 0 ≤ a) (h : a ≤ 1000) : ∀ v ∈ (List.replicate n a ++ List.replicate (16 - n) 0), 0 ≤ v ∧ v ≤ 18446744073709551615 := by
  intro v hv
  rcases List.mem_append.1 hv with hv | hv
  · have := List.eq_of_mem_replicate hv; omega
  · have := List.eq_of_mem_replicate hv; omega
theorem whole_alike (n : Nat) (a most : Int) (h0 : 0 ≤ a) (h : a ≤ most) : Alike n most (fun j => (List.replicate n a ++ List.replicate (16 - n) 0).getD j 0) := by
  refine ⟨a, h0, h, fun j hj => ?_⟩
  simp only [List.getD]
  rw [List.getElem?_append_left (by simpa using hj)]
  simp [hj]
theorem fill_set (n m : Nat) (a : Int) (h : m < n) : (List.replicate m a ++ List.replicate (n - m) 0).set m a = List.replicate (m + 1) a ++ List.replicate (n - (m + 1)) 0 := by
  rw [List.set_append_right _ _ (by simp)]
  simp only [List.length_replicate, Nat.sub_self]
  rw [show n - m = (n - (m + 1)) + 1 by omega, List.replicate_succ, List.set_cons_zero, List.replicate_succ' (n := m), List.append_assoc]
  rfl
end Go.Proofs.Ytkdgjgbmbdmmfaa
