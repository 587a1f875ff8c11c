/- The statement 'for .. := range f { .. }' where no round leaves: the caller says what holds between two rounds (I, of a state of his own), f is told of it, and each round keeps whatever has been laid since f was called. Of no function; no conditions. -/
import Derived.Test.YtpfmmlbakbhklaaGreatDoorRows
import Derived.RangeFuncNested
import Derived.RangeFuncBound
import Derived.RangeFuncCalls
import Derived.RangeFuncLeaves
namespace Go.Proofs.YtpfmmlbakbhklaaGreatDoor
open Go.RowKit

/-- What lay from n on is as it was. -/
structure Kf (n : Nat) (A B : World) : Prop where
  size : A.heap.size ≤ B.heap.size
  block : ∀ k, n ≤ k → k < A.heap.size → B.heap[k]? = A.heap[k]?
theorem Kf.refl (n : Nat) (A : World) : Kf n A A := ⟨Nat.le_refl _, fun _ _ _ => rfl⟩
theorem Kf.trans {n : Nat} {A B C : World} (h : Kf n A B) (k : Kf n B C) : Kf n A C :=
  ⟨Nat.le_trans h.size k.size, fun i a b => (k.block i a (Nat.lt_of_lt_of_le b h.size)).trans (h.block i a b)⟩
theorem Kf.mono {n m : Nat} {A B : World} (h : Kf n A B) (hm : n ≤ m) : Kf m A B := ⟨h.size, fun k a b => h.block k (Nat.le_trans hm a) b⟩
theorem Kf.of_below {n : Nat} {A B : World} (h : Below A.heap.size A B) : Kf n A B := ⟨h.size, fun k _ b => h.block k b⟩
/-- But for the block l the world is as it was. -/
structure Tw (l : Nat) (A B : World) : Prop where
  os : B.os = A.os
  tape : B.tape = A.tape
  output : B.output = A.output
  size : B.heap.size = A.heap.size
  block : ∀ k, k ≠ l → B.heap[k]? = A.heap[k]?
theorem Tw.put (A : World) (l : Nat) (o : Obj) : Tw l A (A.putObj l o) :=
  have h := grownBy_putObj' A l o
  ⟨h.os, h.tape, h.output, by simp [World.putObj], fun k hk => World.putObj_heap_other hk⟩
theorem Tw.below {n l : Nat} {A B : World} (h : Tw l A B) (hl : n ≤ l) : Below n A B := ⟨h.os, h.tape, h.output, Nat.le_of_eq h.size.symm, fun k hk => h.block k (by omega)⟩

/-- Whatever is no cells, from n on, lies as it lay. -/
def Ko (n : Nat) (A B : World) : Prop := ∀ (k : Nat) (o : Obj), n ≤ k → A.heap[k]? = some o → o.isCells = false → B.heap[k]? = some o
theorem Ko.trans {n : Nat} {A B C : World} (h : Ko n A B) (k : Ko n B C) : Ko n A C := fun i o a b c => k i o a (h i o a b c) c
theorem Ko.of_below {n : Nat} {A B : World} (h : Below A.heap.size A B) : Ko n A B := fun k _ _ ho _ => (h.block k (Array.getElem?_eq_some_iff.1 ho).1).trans ho
theorem Ko.refl (n : Nat) (A : World) : Ko n A A := fun _ _ _ h _ => h
/-- A block of cells is none of those that are no cells. -/
theorem Tw.cells {l : Nat} {A B : World} (h : Tw l A B) {o : Obj} (hl : A.heap[l]? = some o) (ho : o.isCells = false) {k : Nat} {c : Array Value} {T : TypeId} (hk : A.heap[k]? = some (.cells c T (0, 0))) : B.heap[k]? = some (.cells c T (0, 0)) := by
  refine (h.block k fun e => ?_).trans hk
  subst e
  rw [hl] at hk; injection hk with hk; subst hk; cases ho

variable {F : Fence} {n : Nat} {P : Program}
def tellPost {β : Type} (B : Nat) (Rk : World → World → Prop) (I : β → World → Prop) (s : β) (W : World) : Exit → Act → World → Prop
  | .normal, _, W' => I s W' ∧ Ko B W W' ∧ Rk W W'
  | _, _, _ => False
/-- Ab: what the function may do between two rounds; Rk: what a round keeps. -/
theorem range_told {β α : Type} {g : Operand} {ps : Array Tmp} {assign body : Code} {Q : Exit → Act → World → Prop} {a : Act} {w : World}
    (hro : F.round = none) (h1 : 1 ≤ n) {gf : Nat} {lb : Array Value} (hg : a.eval g = .func (.func gf) #[] lb) (hFg : F.fn gf) (eg : ∀ args w, (callFunc gf args).run P w = .ok (.enter gf args) w)
    (encs : α → Array Value) (hps : ∀ x, (encs x).size = ps.size)
    (Ab Rk : World → World → Prop) (hAg : ∀ A B, Below A.heap.size A B → Ab A B) (hAo : ∀ (A B : World) (k : Nat) (o : Obj), Ab A B → A.heap[k]? = some o → o.isCells = false → B.heap[k]? = some o)
    (hRt : ∀ A B C, Rk A B → Rk B C → Rk A C) (hRp : ∀ (A B : World) (l : Nat) (o : Obj), Tw l A B → A.heap[l]? = some o → o.isCells = false → Rk A B)
    (I : β → World → Prop) (Ok : β → α → Prop) (nx : β → α → β) (Fin : β → Prop) (s0 : β)
    (hI : ∀ s A B, I s A → Ab A B → I s B) (hIp : ∀ (s : β) (A B : World) (l : Nat) (o : Obj), I s A → Tw l A B → A.heap[l]? = some o → o.isCells = false → w.heap.size ≤ l → I s B) (h0 : I s0 w)
    (hit : ∀ (l : Nat) (J : β → World → Prop) (W : World), Below w.heap.size w W →
      (∀ s A B, J s A → Ab A B → J s B) → (∀ s A, J s A → I s A) →
      (∀ s x A, J s A → Ok s x → YieldAt F (n - 1 - 1) P l (encs x) A fun e B => e = .returned (.bool true) ∧ J (nx s x) B ∧ Rk A B) →
      J s0 W → CallsIn F (n - 1) P gf (#[.func (.yield l) #[] #[]] ++ lb) W fun e B => (∃ v, e = .returned v) ∧ ∃ s, Fin s ∧ J s B)
    (hround : ∀ (l : Nat) (s : β) (x : α) (W : World), I s W → Ok s x → (∃ o : Obj, W.heap[w.heap.size + 1]? = some o ∧ o.isCells = false) →
      assign.wpIn (F.inRound l) (n - 1 - 1) P (Exit.then (fun a₁ W1 => Ko w.heap.size W W1 ∧ Rk W W1 ∧ ∀ W2, Tw (w.heap.size + 1) W1 W2 → body.wpIn (F.inRound l) (n - 1 - 1) P (tellPost w.heap.size Rk I (nx s x) W2) a₁ W2) (fun _ _ _ => False))
        { tmps := (ps.zip (encs x)).foldl (fun t (p, v) => t.setIfInBounds p v) a.tmps, defers := [] } W)
    (hdone : ∀ (s : β) (W : World), Fin s → I s W → W.heap[w.heap.size]? = some (.deferred (some [])) → Q .normal { a with defers := { target := .collected w.heap.size, args := #[] } :: a.defers } W) :
    (Code.rangeFunc g ps assign body).wpIn F n P Q a w := by
  refine wpIn_rangeFunc fun fn hfn => ?_
  rw [hro]
  obtain ⟨rec, hrec⟩ : ∃ rec : LoopState → Loop, rec = fun st => { state := st, pending := none, fn, tmps := a.tmps, params := ps, assign, body, defers := w.heap.size } := ⟨_, rfl⟩
  have hb1 := (Below.refl w.heap.size w).alloc (Nat.le_refl _) (.deferred (some []))
  have hb2 : Below (w.alloc (.deferred (some []))).heap.size (w.alloc (.deferred (some []))) ((w.alloc (.deferred (some []))).alloc (.loop (rec .ready))) := (Below.refl _ _).alloc (Nat.le_refl _) _
  have hB1 : Below w.heap.size w ((w.alloc (.deferred (some []))).alloc (.loop (rec .ready))) := hb1.alloc (by simp) _
  have hI1 := hI _ _ _ (hI _ _ _ h0 (hAg _ _ hb1)) (hAg _ _ hb2)
  have hL1 : ((w.alloc (.deferred (some []))).alloc (.loop (rec .ready))).heap[w.heap.size + 1]? = some (.loop (rec .ready)) := by
    have := World.alloc_heap_new (w.alloc (.deferred (some []))) (.loop (rec .ready)); rwa [World.size_alloc] at this
  have hK1 : ((w.alloc (.deferred (some []))).alloc (.loop (rec .ready))).heap[w.heap.size]? = some (.deferred (some [])) :=
    (Below.heap_alloc _ _ _ (by simp)).trans (World.alloc_heap_new w _)
  refine ⟨w.heap.size + 1, [{ target := .collected w.heap.size, args := #[] }], (w.alloc (.deferred (some []))).alloc (.loop (rec .ready)), { target := .fn (.func gf) lb, args := #[.func (.yield (w.heap.size + 1)) #[] #[]] }, (w.alloc (.deferred (some []))).alloc (.loop (rec .ready)), gf, #[.func (.yield (w.heap.size + 1)) #[] #[]] ++ lb, (w.alloc (.deferred (some []))).alloc (.loop (rec .ready)),
    by rw [hrec]; exact run_enterLoop_outer _ _ _ _ _, by simp only [resolve, hg]; simp [go_sem], fun f' hf' => by simp [Target.leads] at hf'; subst hf'; exact hFg, by simp [invoke, go_sem, eg], fun _ => h1, ?_⟩
  generalize ((w.alloc (.deferred (some []))).alloc (.loop (rec .ready))) = W1 at *
  refine (hit (w.heap.size + 1) (fun s W => I s W ∧ W.heap[w.heap.size + 1]? = some (.loop (rec .ready)) ∧ W.heap[w.heap.size]? = some (.deferred (some []))) W1 hB1
    (fun s A B hs hb => ⟨hI s A B hs.1 hb, hAo _ _ _ _ hb hs.2.1 rfl, hAo _ _ _ _ hb hs.2.2 rfl⟩) (fun s A h => h.1) ?_ ⟨hI1, hL1, hK1⟩).mono ?_
  · rintro s x A ⟨hi, hl, hk⟩ hok
    have hy := run_yield (P := P) (args := encs x) hl (by rw [hrec]; exact hps x)
    rw [hrec] at hy
    refine ⟨fn, _, assign, body, hy, roundIn_of_wpIn hfn (wpIn_mono (hround (w.heap.size + 1) s x A hi hok ⟨_, hl, rfl⟩) ?_)⟩
    rintro e a1 A1 hp
    cases e with
    | normal =>
      obtain ⟨hko, hrk, hbody⟩ := hp
      have hl1 : A1.heap[w.heap.size + 1]? = some (.loop (rec .ready)) := hko _ _ (by omega) hl rfl
      have hk1 : A1.heap[w.heap.size]? = some (.deferred (some [])) := hko _ _ (Nat.le_refl _) hk rfl
      refine ⟨_, run_beginRound hl1 (by rw [hrec]), wpIn_mono (hbody _ (Tw.put _ _ _)) ?_⟩
      rintro e a3 A3 hp3
      cases e with
      | normal =>
        obtain ⟨hi3, hko3, hrk3⟩ := hp3
        have hl3 := hko3 _ _ (by omega) (World.putObj_heap_same (Array.getElem?_eq_some_iff.1 hl1).1) rfl
        have hk3 := hko3 _ _ (Nat.le_refl _) ((World.putObj_heap_other (by omega)).trans hk1) rfl
        have hr := run_endRound (P := P) none hl3
        refine ⟨_, _, hr, rfl, ⟨hIp _ _ _ _ _ hi3 (Tw.put _ _ _) hl3 rfl (by omega), ?_, (World.putObj_heap_other (by omega)).trans hk3⟩, ?_⟩
        · rw [World.putObj_heap_same (Array.getElem?_eq_some_iff.1 hl3).1, hrec]; rfl
        · exact hRt _ _ _ hrk (hRt _ _ _ (hRp _ _ _ _ (Tw.put _ _ _) hl1 rfl) (hRt _ _ _ hrk3 (hRp _ _ _ _ (Tw.put _ _ _) hl3 rfl)))
      | _ => exact hp3.elim
    | _ => exact hp.elim
  · rintro e W2 ⟨⟨v, rfl⟩, s, hs, hi, hl, hk⟩
    exact ⟨none, _, by have := run_endLoop (P := P) hl (by rw [hrec]; simp); rw [hrec] at this; exact this, hdone s _ hs (hIp _ _ _ _ _ hi (Tw.put _ _ _) hl rfl (by omega)) ((World.putObj_heap_other (by omega)).trans hk)⟩

/-- The function may write blocks of one type (T) alone, of those from n on; a round keeps just these. -/
structure AbT (n : Nat) (T : TypeId) (A B : World) : Prop where
  os : B.os = A.os
  tape : B.tape = A.tape
  output : B.output = A.output
  size : A.heap.size ≤ B.heap.size
  block : ∀ (k : Nat) (o : Obj), A.heap[k]? = some o → (k < n ∨ ∀ c, o ≠ Obj.cells c T (0, 0)) → B.heap[k]? = some o
def RkT (T : TypeId) (A B : World) : Prop := ∀ (k : Nat) (c : Array Value), A.heap[k]? = some (Obj.cells c T (0, 0)) → B.heap[k]? = some (Obj.cells c T (0, 0))
theorem AbT.of_below {n : Nat} {T : TypeId} {A B : World} (h : Below A.heap.size A B) : AbT n T A B :=
  ⟨h.os, h.tape, h.output, h.size, fun k _ ho _ => (h.block k (Array.getElem?_eq_some_iff.1 ho).1).trans ho⟩
theorem AbT.other {n : Nat} {T : TypeId} {A B : World} (k : Nat) (o : Obj) (h : AbT n T A B) (ho : A.heap[k]? = some o) (hc : o.isCells = false) : B.heap[k]? = some o :=
  h.block k o ho (.inr fun c e => by subst e; cases hc)
theorem AbT.cells {n : Nat} {T T' : TypeId} {A B : World} (h : AbT n T A B) {k : Nat} {c : Array Value} (ho : A.heap[k]? = some (.cells c T' (0, 0))) (hT : T' ≠ T) : B.heap[k]? = some (.cells c T' (0, 0)) :=
  h.block k _ ho (.inr fun c' e => hT (by injection e))
theorem AbT.low {n : Nat} {T : TypeId} {A B : World} (h : AbT n T A B) {k : Nat} {o : Obj} (ho : A.heap[k]? = some o) (hk : k < n) : B.heap[k]? = some o := h.block k o ho (.inl hk)
theorem AbT.below {n m : Nat} {T : TypeId} {A B : World} (h : AbT n T A B) (hm : m ≤ n) (hA : m ≤ A.heap.size) : Below m A B :=
  ⟨h.os, h.tape, h.output, h.size, fun k hk => (h.block k A.heap[k] (Array.getElem?_eq_getElem (by omega)) (.inl (by omega))).trans (Array.getElem?_eq_getElem (by omega)).symm⟩
theorem AbT.setCell {n : Nat} {T : TypeId} {A B : World} (h : AbT n T A B) {q i : Nat} {c : Array Value} (hq : A.heap[q]? = some (.cells c T (0, 0))) (hn : n ≤ q) (v : Value) : AbT n T A (B.setCell ⟨q, i, none⟩ v) :=
  ⟨h.os, h.tape, h.output, by simpa [World.setCell] using h.size, fun k o ho hc => by
    have hk : k ≠ q := fun e => by
      subst e
      rcases hc with hc | hc
      · omega
      · rw [hq] at ho; injection ho with ho; exact hc c ho.symm
    exact (Below.heap_setCell B ⟨q, i, none⟩ v k hk).trans (h.block k o ho hc)⟩
theorem RkT.refl (T : TypeId) (A : World) : RkT T A A := fun _ _ h => h
theorem RkT.of_below {T : TypeId} {A B : World} (h : Below A.heap.size A B) : RkT T A B := fun k _ ho => (h.block k (Array.getElem?_eq_some_iff.1 ho).1).trans ho
theorem RkT.trans {T : TypeId} (A B C : World) (h : RkT T A B) (k : RkT T B C) : RkT T A C := fun i c hi => k i c (h i c hi)
theorem RkT.tw {T : TypeId} (A B : World) (l : Nat) (o : Obj) (h : Tw l A B) (hl : A.heap[l]? = some o) (ho : o.isCells = false) : RkT T A B := fun _ _ hk => h.cells hl ho hk
end Go.Proofs.YtpfmmlbakbhklaaGreatDoor
