/- Epochs as plain data (the epoch, the pins, what waits), what each call tells and leaves; epochs that lie in memory behind a pointer: a number, a slice of pins, a map; what is known of their cells, and what stays when one of them is laid. Of no function; no conditions. -/
import Derived.Test.YthiicngnhnglfaaQ
import Derived.OneCell
import Derived.Maps.AppendAt
import Derived.Deep.QuietTactic
import Derived.Deep.RegionHeld3
import Derived.Laws.ResultCell
namespace Go.Proofs.Ythiicngnhnglfaa
open Go.Maps Go.RowKit

/-! ### Small facts on worlds -/
theorem ret_bool {x y : Bool} (h : x = y) : Ending.returned (.bool x) = .returned (.bool y) := by rw [h]
theorem ret_int {k : IntKind} {a b : Int} (h : a = b) : Ending.returned (.int k a) = .returned (.int k b) := by rw [h]
theorem i64w {x : Int} (h1 : -9223372036854775808 ≤ x) (h2 : x ≤ 9223372036854775807) : IntKind.i64.wrap x = x := by
  simp [IntKind.wrap, IntKind.bits, IntKind.signed]; omega
theorem below_one (w : World) (o : Obj) : Below w.heap.size w (w.alloc o) := (Below.refl _ _).alloc (Nat.le_refl _) _
theorem cell_of {w : World} {g i : Nat} {c : Array Value} {t : TypeId} {v : Value} (h : w.heap[g]? = some (.cells c t (0, 0))) (hv : c[i]? = some v) : w.cell? ⟨g, i, none⟩ = some v := by
  simp [World.cell?, h, hv]
theorem free_of {w : World} {g i : Nat} {c : Array Value} {t : TypeId} (h : w.heap[g]? = some (.cells c t (0, 0))) : w.frozen? ⟨g, i, none⟩ = false := by
  simp [World.frozen?, h]
theorem heap_setCell_self {w : World} {g i : Nat} {cs : Array Value} {t : TypeId} (h : w.heap[g]? = some (.cells cs t (0, 0))) (u : Value) :
    (w.setCell ⟨g, i, none⟩ u).heap[g]? = some (.cells (cs.setIfInBounds i u) t (0, 0)) := by
  have hlt := lt_of_block h
  have h' : w.heap[g] = .cells cs t (0, 0) := by simpa [Array.getElem?_eq_getElem hlt] using h
  show (w.heap.modify g _)[g]? = _
  rw [Array.getElem?_eq_getElem (by simpa using hlt), Array.getElem_modify_self, h']
  rfl
theorem hkeep {W : World} {g : Nat} {o : Obj} (h : W.heap[g]? = some o) (o' : Obj) : (W.alloc o').heap[g]? = some o := (Below.heap_alloc W o' g (lt_of_block h)).trans h
theorem two_new (w : World) (A B : Obj) : ((w.alloc A).alloc B).heap[w.heap.size]? = some A ∧ ((w.alloc A).alloc B).heap[w.heap.size + 1]? = some B := by
  refine ⟨hkeep (heap_alloc_new _ _) _, ?_⟩
  have := heap_alloc_new (w.alloc A) B
  simpa using this
theorem three_new (w : World) (A B C : Obj) : (((w.alloc A).alloc B).alloc C).heap[w.heap.size]? = some A ∧ (((w.alloc A).alloc B).alloc C).heap[w.heap.size + 1]? = some B ∧ (((w.alloc A).alloc B).alloc C).heap[w.heap.size + 1 + 1]? = some C := by
  obtain ⟨a, b⟩ := two_new w A B
  refine ⟨hkeep a _, hkeep b _, ?_⟩
  have := heap_alloc_new ((w.alloc A).alloc B) C
  simpa using this
theorem stay {A B : World} {g : Nat} {o : Obj} (h : Below A.heap.size A B) (a : A.heap[g]? = some o) : B.heap[g]? = some o := (h.block g (lt_of_block a)).trans a
theorem btwo (w : World) (A B : Obj) : Below w.heap.size w ((w.alloc A).alloc B) := (below_one w A).alloc (by simp) B
theorem bthree (w : World) (A B C : Obj) : Below w.heap.size w (((w.alloc A).alloc B).alloc C) := (btwo w A B).alloc (by simp; omega) C
theorem bgo {A B C : World} (h : Below A.heap.size A B) (h' : Below B.heap.size B C) : Below A.heap.size A C := h.trans (h'.mono h.size)
theorem below_grown {w w' : World} (h : w.grownBy w' none) : Below w.heap.size w w' := ⟨h.os, h.tape, h.output, h.size, fun k hk => h.block k hk (by simp)⟩
theorem grown_below {w w' : World} (h : Below w.heap.size w w') (row : Option Nat) : w.grownBy w' row := ⟨h.os, h.tape, h.output, h.size, fun k hk _ => h.block k hk⟩

/-! ### Epochs as plain data -/
structure Ep where
  n : Nat
  P : List (Option Nat)
  L : Ws
/-- The CPU is there. -/
abbrev isC (s : Ep) (c : Int) : Prop := 0 ≤ c ∧ c < s.P.length
abbrev pinOf (s : Ep) (c : Int) : Option Nat := s.P.getD c.toNat none
def pinE (s : Ep) (c : Int) : Int := if isC s c then (if (pinOf s c).isSome = true then 6 else 0) else 2
def pinS (s : Ep) (c : Int) : Ep := if pinE s c = 0 then ⟨s.n, s.P.set c.toNat (some s.n), s.L⟩ else s
def unE (s : Ep) (c : Int) : Int := if isC s c then (if (pinOf s c).isSome = true then 0 else 6) else 2
def unS (s : Ep) (c : Int) : Ep := if unE s c = 0 then ⟨s.n, s.P.set c.toNat none, s.L⟩ else s
def retE (s : Ep) (f : Int) : Int := if f < 0 then 1 else if hasW f.toNat s.L = true then 5 else 0
def retS (s : Ep) (f : Int) : Ep := if retE s f = 0 then ⟨s.n, s.P, ins f.toNat s.n s.L⟩ else s
/-- The CPU is pinned at another epoch. -/
def late (n : Nat) (p : Option Nat) : Bool := p.isSome && p.getD 0 != n
def advT (s : Ep) : Bool := !s.P.any (late s.n)
def advS (s : Ep) : Ep := if advT s = true then ⟨s.n + 1, s.P, s.L⟩ else s
def frL (s : Ep) : List Nat := tl ((s.n : Int) - 2) s.L
def frS (s : Ep) : Ep := ⟨s.n, s.P, lv ((s.n : Int) - 2) s.L⟩
def waL (s : Ep) : List Nat := s.L.map (·.1)
def pnA (s : Ep) (c : Int) : Int := if isC s c then ((pinOf s c).getD 0 : Nat) else 0
def pnB (s : Ep) (c : Int) : Bool := if isC s c then (pinOf s c).isSome else false

/-- What holds of epochs, B calls behind New at most. -/
structure Ok (B : Nat) (s : Ep) : Prop where
  up : Up s.L
  top : s.n ≤ B
  len : s.L.length ≤ B
  pos : 1 ≤ s.P.length
  cpus : s.P.length ≤ 8
  since : ∀ p ∈ s.L, p.2 ≤ s.n
  fits : ∀ p ∈ s.L, p.1 < 9223372036854775808
  pins : ∀ a, some a ∈ s.P → a ≤ s.n
theorem mem_set {P : List (Option Nat)} {i : Nat} {x : Option Nat} {a : Nat} (h : some a ∈ P.set i x) : some a = x ∨ some a ∈ P := by
  rcases List.mem_or_eq_of_mem_set h with h | h
  · exact .inr h
  · exact .inl h
section
variable {B : Nat} {s : Ep}
theorem Ok.mono {B' : Nat} (h : Ok B s) (hB : B ≤ B') : Ok B' s := ⟨h.up, Nat.le_trans h.top hB, Nat.le_trans h.len hB, h.pos, h.cpus, h.since, h.fits, h.pins⟩
theorem Ok.pin (h : Ok B s) (c : Int) : Ok B (pinS s c) := by
  unfold pinS
  split
  · refine ⟨h.up, h.top, h.len, by simpa using h.pos, by simpa using h.cpus, h.since, h.fits, fun a ha => ?_⟩
    rcases mem_set ha with e | e
    · cases e; exact Nat.le_refl _
    · exact h.pins a e
  · exact h
theorem Ok.un (h : Ok B s) (c : Int) : Ok B (unS s c) := by
  unfold unS
  split
  · refine ⟨h.up, h.top, h.len, by simpa using h.pos, by simpa using h.cpus, h.since, h.fits, fun a ha => ?_⟩
    rcases mem_set ha with e | e
    · cases e
    · exact h.pins a e
  · exact h
theorem retE_ok {f : Int} (h : retE s f = 0) : 0 ≤ f ∧ hasW f.toNat s.L = false := by
  unfold retE at h
  split at h
  · cases h
  · split at h
    · cases h
    · rename_i h1 h2
      exact ⟨by omega, by simpa using h2⟩
theorem Ok.ret (h : Ok B s) (f : Int) (hf : f < 9223372036854775808) : Ok (B + 1) (retS s f) := by
  unfold retS
  split
  · rename_i he
    obtain ⟨h0, hn⟩ := retE_ok he
    refine ⟨up_ins h.up hn, by have := h.top; show s.n ≤ B + 1; omega, by rw [ins_length]; have := h.len; omega, h.pos, h.cpus, fun p hp => ?_, fun p hp => ?_, h.pins⟩
    · rcases ins_mem.1 hp with rfl | hp
      · exact Nat.le_refl _
      · exact h.since p hp
    · rcases ins_mem.1 hp with rfl | hp
      · show f.toNat < _; omega
      · exact h.fits p hp
  · exact h.mono (by omega)
theorem Ok.adv (h : Ok B s) : Ok (B + 1) (advS s) := by
  unfold advS
  split
  · exact ⟨h.up, by have := h.top; show s.n + 1 ≤ B + 1; omega, by have := h.len; show s.L.length ≤ B + 1; omega, h.pos, h.cpus, fun p hp => by have := h.since p hp; show p.2 ≤ s.n + 1; omega, h.fits, fun a ha => by have := h.pins a ha; show a ≤ s.n + 1; omega⟩
  · exact h.mono (by omega)
theorem Ok.fr (h : Ok B s) : Ok B (frS s) :=
  ⟨up_filter h.up _, h.top, Nat.le_trans (List.length_filter_le _ _) h.len, h.pos, h.cpus, fun p hp => h.since p (List.mem_filter.1 hp).1, fun p hp => h.fits p (List.mem_filter.1 hp).1, h.pins⟩
theorem waL_tl (h : Ok B s) : tl (s.n : Int) s.L = waL s := by
  unfold tl waL
  congr 1
  exact List.filter_eq_self.2 fun p hp => by have := h.since p hp; simpa using this
theorem frL_len (h : Ok B s) : (frL s).length ≤ B := by
  unfold frL tl
  rw [List.length_map]
  exact Nat.le_trans (List.length_filter_le _ _) h.len
theorem waL_len (h : Ok B s) : (waL s).length ≤ B := by
  unfold waL
  rw [List.length_map]
  exact h.len
end
/-- Behind New. -/
def ep0 (k : Nat) : Ep := ⟨0, List.replicate k none, []⟩
theorem Ok.new {k : Nat} (h1 : 1 ≤ k) (h2 : k ≤ 8) : Ok 0 (ep0 k) :=
  ⟨List.Pairwise.nil, Nat.le_refl _, Nat.le_refl _, by simpa [ep0] using h1, by simpa [ep0] using h2, fun p hp => (by cases hp), fun p hp => (by cases hp), fun a ha => (by simp [ep0] at ha)⟩

/-! ### The pins' cells -/
def pc (P : List (Option Nat)) : List Value := P.flatMap fun p => [.bool p.isSome, .int .i64 (p.getD 0 : Nat)]
theorem pc_cons (p : Option Nat) (P : List (Option Nat)) : pc (p :: P) = .bool p.isSome :: .int .i64 (p.getD 0 : Nat) :: pc P := rfl
theorem pc_length : ∀ P : List (Option Nat), (pc P).length = P.length * 2
  | [] => rfl
  | p :: P => by rw [pc_cons]; simp only [List.length_cons, pc_length P]; omega
theorem pc_at : ∀ (P : List (Option Nat)) (i : Nat), i < P.length → (pc P)[i * 2]? = some (.bool (P.getD i none).isSome) ∧ (pc P)[i * 2 + 1]? = some (.int .i64 ((P.getD i none).getD 0 : Nat))
  | [], i, h => by simp at h
  | p :: P, 0, _ => by rw [pc_cons]; simp
  | p :: P, i + 1, h => by
    have ih := pc_at P i (by simpa using h)
    rw [pc_cons, show (i + 1) * 2 = i * 2 + 2 by omega]
    simpa [List.getD] using ih
theorem pc_set : ∀ (P : List (Option Nat)) (i : Nat) (x : Option Nat), i < P.length → ((pc P).set (i * 2) (.bool x.isSome)).set (i * 2 + 1) (.int .i64 (x.getD 0 : Nat)) = pc (P.set i x)
  | [], i, x, h => by simp at h
  | p :: P, 0, x, _ => by rw [List.set_cons_zero, pc_cons, pc_cons]; rfl
  | p :: P, i + 1, x, h => by
    have ih := pc_set P i x (by simpa using h)
    rw [List.set_cons_succ, pc_cons, pc_cons, ← ih, show (i + 1) * 2 = i * 2 + 2 by omega]
    simp
theorem pc_none (n : Nat) : pc (List.replicate n none) = (List.replicate n [Value.bool false, .int .i64 0]).flatten := by
  induction n with
  | zero => rfl
  | succ n ih => rw [List.replicate_succ, List.replicate_succ, pc_cons, ih]; rfl
theorem pc_one (P : List (Option Nat)) : ∀ u ∈ pc P, u.oneCell' = true := by
  intro u hu
  simp only [pc, List.mem_flatMap] at hu
  obtain ⟨d, _, h⟩ := hu
  simp at h
  rcases h with rfl | rfl <;> rfl

/-! ### Epochs in memory -/
theorem key3 : Keyed Try.prog 3 := int_keyed Try.underlying3
abbrev Own (w : World) (m : Nat) (L : Ws) : Prop := w.ownsMap Try.prog 3 (plainElem Try.prog 3) m L.length (Dm L)
structure IsE (w : World) (p b m : Nat) (s : Ep) : Prop where
  head : ∃ c, w.heap[p]? = some (.cells #[.int .i64 s.n, .slice (some ⟨b, 0, none⟩) s.P.length c, .map (some m)] 51 (0, 0))
  row : ∃ r, w.heap[b]? = some (.cells ⟨pc s.P ++ r⟩ 55 (0, 0))
  map : Own w m s.L
  ne : p ≠ b
/-- All that was there is as it was, but for three blocks. -/
structure Bt (p b m : Nat) (w w' : World) : Prop where
  os : w'.os = w.os
  tape : w'.tape = w.tape
  output : w'.output = w.output
  size : w.heap.size ≤ w'.heap.size
  block : ∀ k, k < w.heap.size → k ≠ p → k ≠ b → k ≠ m → w'.heap[k]? = w.heap[k]?
section
variable {p b m : Nat} {w w' x y z : World} {s : Ep}
theorem Bt.refl (p b m : Nat) (w : World) : Bt p b m w w := ⟨rfl, rfl, rfl, Nat.le_refl _, fun _ _ _ _ _ => rfl⟩
theorem Bt.trans (h : Bt p b m x y) (k : Bt p b m y z) : Bt p b m x z :=
  ⟨k.os.trans h.os, k.tape.trans h.tape, k.output.trans h.output, Nat.le_trans h.size k.size, fun i hi a1 a2 a3 => (k.block i (Nat.lt_of_lt_of_le hi h.size) a1 a2 a3).trans (h.block i hi a1 a2 a3)⟩
theorem Bt.below {B : Nat} (h : Bt p b m w w') (hB : B ≤ w.heap.size) (h1 : B ≤ p) (h2 : B ≤ b) (h3 : B ≤ m) : Below B w w' :=
  ⟨h.os, h.tape, h.output, h.size, fun k hk => h.block k (by omega) (by omega) (by omega) (by omega)⟩
theorem Bt.of_below (h : Below w.heap.size w w') : Bt p b m w w' := ⟨h.os, h.tape, h.output, h.size, fun k hk _ _ _ => h.block k hk⟩
theorem Bt.of_grown (h : w.grownBy w' (some m)) : Bt p b m w w' := ⟨h.os, h.tape, h.output, h.size, fun k hk _ _ h3 => h.block k hk (fun e => h3 (by cases e; rfl))⟩
theorem Bt.setRow (w : World) (i : Nat) (u : Value) : Bt p b m w (w.setCell ⟨b, i, none⟩ u) := ⟨rfl, rfl, rfl, by simp [World.setCell], fun k _ _ h _ => Below.heap_setCell w _ u k h⟩
theorem Bt.setHead (w : World) (i : Nat) (u : Value) : Bt p b m w (w.setCell ⟨p, i, none⟩ u) := ⟨rfl, rfl, rfl, by simp [World.setCell], fun k _ h _ _ => Below.heap_setCell w _ u k h⟩
theorem Bt.drew (h : Bt p b m w w') : Bt p b m w w'.drew := ⟨h.os, h.tape, h.output, h.size, h.block⟩

theorem IsE.lt (h : IsE w p b m s) : p < w.heap.size ∧ b < w.heap.size ∧ m < w.heap.size := by
  obtain ⟨c, hc⟩ := h.head
  obtain ⟨r, hr⟩ := h.row
  exact ⟨lt_of_block hc, lt_of_block hr, h.map.lt⟩
theorem IsE.nem (h : IsE w p b m s) : p ≠ m ∧ b ≠ m := by
  obtain ⟨c, hc⟩ := h.head
  obtain ⟨r, hr⟩ := h.row
  obtain ⟨es, k, hm, _⟩ := h.map
  refine ⟨fun e => ?_, fun e => ?_⟩
  · rw [e, hm] at hc; simp at hc
  · rw [e, hm] at hr; simp at hr
theorem own_keep {L : Ws} (h : Own w m L) (e : w'.heap[m]? = w.heap[m]?) : Own w' m L := by
  obtain ⟨es, clock, hb, F, hs, hD⟩ := h
  exact ⟨es, clock, e.trans hb, F, hs, hD⟩
theorem IsE.keep (h : IsE w p b m s) (e : w'.heap[p]? = w.heap[p]?) (f : w'.heap[b]? = w.heap[b]?) (g : w'.heap[m]? = w.heap[m]?) : IsE w' p b m s := by
  obtain ⟨c, hc⟩ := h.head
  obtain ⟨r, hr⟩ := h.row
  exact ⟨⟨c, e.trans hc⟩, ⟨r, f.trans hr⟩, own_keep h.map g, h.ne⟩
theorem IsE.below (h : IsE w p b m s) (k : Below w.heap.size w w') : IsE w' p b m s := h.keep (k.block _ h.lt.1) (k.block _ h.lt.2.1) (k.block _ h.lt.2.2)
theorem IsE.drew (h : IsE w p b m s) : IsE w.drew p b m s := h.keep rfl rfl rfl
theorem IsE.alloc (h : IsE w p b m s) (o : Obj) : IsE (w.alloc o) p b m s := h.below (below_one w o)
theorem IsE.heads (h : IsE w p b m s) : ∃ c, w.cell? ⟨p, 0, none⟩ = some (.int .i64 s.n) ∧ w.cell? ⟨p, 1, none⟩ = some (.slice (some ⟨b, 0, none⟩) s.P.length c) ∧ w.cell? ⟨p, 2, none⟩ = some (.map (some m)) ∧ w.frozen? ⟨p, 0, none⟩ = false := by
  obtain ⟨c, hc⟩ := h.head
  exact ⟨c, cell_of hc rfl, cell_of hc rfl, cell_of hc rfl, free_of hc⟩
theorem pc_pre (P : List (Option Nat)) (r : List Value) {i : Nat} {v : Value} (h : (pc P)[i]? = some v) : (pc P ++ r)[i]? = some v := by
  rw [List.getElem?_append_left]
  · exact h
  · exact (List.getElem?_eq_some_iff.1 h).1
theorem IsE.cells (h : IsE w p b m s) (i : Nat) (hi : i < s.P.length) :
    w.cell? ⟨b, i * 2, none⟩ = some (.bool (s.P.getD i none).isSome) ∧ w.cell? ⟨b, i * 2 + 1, none⟩ = some (.int .i64 ((s.P.getD i none).getD 0 : Nat)) := by
  obtain ⟨r, hr⟩ := h.row
  obtain ⟨a0, a1⟩ := pc_at s.P i hi
  exact ⟨cell_of hr (by simpa using pc_pre s.P r a0), cell_of hr (by simpa using pc_pre s.P r a1)⟩
theorem IsE.free (h : IsE w p b m s) (i : Nat) : w.frozen? ⟨b, i, none⟩ = false := by
  obtain ⟨r, hr⟩ := h.row
  exact free_of hr
/-- A pin is laid. -/
theorem IsE.set (h : IsE w p b m s) (i : Nat) (hi : i < s.P.length) (v : Option Nat) :
    IsE ((w.setCell ⟨b, i * 2, none⟩ (.bool v.isSome)).setCell ⟨b, i * 2 + 1, none⟩ (.int .i64 (v.getD 0 : Nat))) p b m ⟨s.n, s.P.set i v, s.L⟩ := by
  have hne := h.ne
  have hnm := h.nem.2
  obtain ⟨c, hc⟩ := h.head
  obtain ⟨r, hr⟩ := h.row
  have hB : Bt p b m w ((w.setCell ⟨b, i * 2, none⟩ (.bool v.isSome)).setCell ⟨b, i * 2 + 1, none⟩ (.int .i64 (v.getD 0 : Nat))) := (Bt.setRow w _ _).trans (Bt.setRow _ _ _)
  have hk : ∀ g, g ≠ b → ((w.setCell ⟨b, i * 2, none⟩ (.bool v.isSome)).setCell ⟨b, i * 2 + 1, none⟩ (.int .i64 (v.getD 0 : Nat))).heap[g]? = w.heap[g]? := fun g hg =>
    (Below.heap_setCell _ ⟨b, i * 2 + 1, none⟩ _ g hg).trans (Below.heap_setCell _ ⟨b, i * 2, none⟩ _ g hg)
  refine ⟨⟨c, ?_⟩, ⟨r, ?_⟩, own_keep h.map (hk m (Ne.symm hnm)), hne⟩
  · rw [hk p hne, hc]; simp
  · rw [heap_setCell_self (heap_setCell_self hr _) _, ← pc_set s.P i v hi]
    have hl : i * 2 + 1 < (pc s.P).length := by rw [pc_length]; omega
    simp only [List.setIfInBounds_toArray]
    rw [List.set_append_left _ _ (by omega), List.set_append_left _ _ (by simp; omega)]
/-- The epoch is laid. -/
theorem IsE.setN (h : IsE w p b m s) (n : Nat) : IsE (w.setCell ⟨p, 0, none⟩ (.int .i64 (n : Nat))) p b m ⟨n, s.P, s.L⟩ := by
  obtain ⟨c, hc⟩ := h.head
  obtain ⟨r, hr⟩ := h.row
  have hk : ∀ g, g ≠ p → (w.setCell ⟨p, 0, none⟩ (.int .i64 (n : Nat))).heap[g]? = w.heap[g]? := fun g hg => Below.heap_setCell _ ⟨p, 0, none⟩ _ g hg
  refine ⟨⟨c, ?_⟩, ⟨r, (hk b (Ne.symm h.ne)).trans hr⟩, own_keep h.map (hk m (Ne.symm h.nem.1)), h.ne⟩
  rw [heap_setCell_self hc]
  rfl
/-- The map is turned. -/
theorem IsE.setM (h : IsE w p b m s) {L : Ws} (hg : w.grownBy w' (some m)) (hO : Own w' m L) : IsE w' p b m ⟨s.n, s.P, L⟩ := by
  obtain ⟨c, hc⟩ := h.head
  obtain ⟨r, hr⟩ := h.row
  obtain ⟨h1, h2, _⟩ := h.lt
  obtain ⟨k1, k2⟩ := h.nem
  exact ⟨⟨c, (hg.block p h1 (fun e => k1 (by cases e; rfl))).trans hc⟩, ⟨r, (hg.block b h2 (fun e => k2 (by cases e; rfl))).trans hr⟩, hO, h.ne⟩
end

/-- No epochs: nil, or ones that New did not give. -/
def NoE (w : World) (v : Value) : Prop := v = .pointer none ∨ ∃ g, v = .pointer (some ⟨g, 0, none⟩) ∧ w.cell? ⟨g, 1, none⟩ = some (.slice none 0 0)
theorem NoE.below {w w' : World} {v : Value} (h : NoE w v) (k : Below w.heap.size w w') : NoE w' v := by
  rcases h with h | ⟨g, h, e⟩
  · exact .inl h
  · exact .inr ⟨g, h, (k.cell (p := ⟨g, 1, none⟩) (World.block_lt_of_cell? w ⟨g, 1, none⟩ e)).trans e⟩
end Go.Proofs.Ythiicngnhnglfaa
