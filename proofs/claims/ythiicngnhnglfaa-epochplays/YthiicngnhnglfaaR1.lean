/- The document's answer of layer 10 in memory (behind a pointer: a number, a slice of numbers, a slice of frames that wait); what New, Pin, Unpin and Advance return and leave there: the same functions as the program's. No conditions beyond what Ok says. -/
import Derived.Test.YthiicngnhnglfaaK
import Derived.Deep.CutRange
import Derived.BigQuiet
namespace Go.Proofs.Ythiicngnhnglfaa
open Go.RowKit

/-- A CPU's number: the epoch, or below 0. -/
def rI : Option Nat → Int
  | none => -1
  | some a => (a : Nat)
theorem rI_some {x : Option Nat} (h : x.isSome = true) : rI x = (x.getD 0 : Nat) := by
  obtain ⟨a, rfl⟩ := Option.isSome_iff_exists.1 h
  rfl
theorem rI_none {x : Option Nat} (h : ¬ x.isSome = true) : x = none := by cases x <;> simp at h ⊢
def rc (P : List (Option Nat)) : List Value := P.map fun x => .int .i64 (rI x)
theorem rc_length (P : List (Option Nat)) : (rc P).length = P.length := by simp [rc]
theorem rc_at (P : List (Option Nat)) (i : Nat) (hi : i < P.length) : (rc P)[i]? = some (.int .i64 (rI (P.getD i none))) := by simp [rc, hi, List.getD]
theorem rc_set (P : List (Option Nat)) (i : Nat) (x : Option Nat) : (rc P).set i (.int .i64 (rI x)) = rc (P.set i x) := by simp [rc, List.map_set]
/-- The cells of what waits. -/
def wc (L : Ws) : List Value := L.flatMap fun x => [.int .i64 (x.1 : Nat), .int .i64 (x.2 : Nat)]
theorem wc_nil : wc [] = [] := rfl
theorem wc_cons (x : Nat × Nat) (L : Ws) : wc (x :: L) = .int .i64 (x.1 : Nat) :: .int .i64 (x.2 : Nat) :: wc L := rfl
theorem wc_append (A B : Ws) : wc (A ++ B) = wc A ++ wc B := by simp [wc]
theorem wc_length : ∀ L : Ws, (wc L).length = L.length * 2
  | [] => rfl
  | x :: L => by rw [wc_cons]; simp only [List.length_cons, wc_length L]; omega
theorem wc_at : ∀ (L : Ws) (i : Nat), i < L.length → (wc L)[i * 2]? = some (.int .i64 ((L.getD i (0, 0)).1 : Nat)) ∧ (wc L)[i * 2 + 1]? = some (.int .i64 ((L.getD i (0, 0)).2 : Nat))
  | [], i, h => by simp at h
  | x :: L, 0, _ => by rw [wc_cons]; simp
  | x :: L, i + 1, h => by
    have ih := wc_at L i (by simpa using h)
    rw [wc_cons, show (i + 1) * 2 = i * 2 + 2 by omega]
    simpa [List.getD] using ih
theorem wc_one (L : Ws) : ∀ u ∈ wc L, u.oneCell' = true := by
  intro u hu
  simp only [wc, List.mem_flatMap] at hu
  obtain ⟨d, _, h⟩ := hu
  simp at h
  rcases h with rfl | rfl <;> rfl
abbrev LW (w : World) (v : Value) (L : Ws) : Prop := w.ownsRow 0 57 2 v L.length (wc L)

structure IsR (w : World) (p b : Nat) (s : Ep) : Prop where
  head : ∃ c v, w.heap[p]? = some (.cells #[.int .i64 s.n, .slice (some ⟨b, 0, none⟩) s.P.length c, v] 42 (0, 0)) ∧ LW w v s.L
  row : ∃ r, w.heap[b]? = some (.cells ⟨rc s.P ++ r⟩ 3 (0, 0))
section
variable {w w' : World} {p b : Nat} {s : Ep}
theorem IsR.lt (h : IsR w p b s) : p < w.heap.size ∧ b < w.heap.size := by
  obtain ⟨c, v, hc, _⟩ := h.head
  obtain ⟨r, hr⟩ := h.row
  exact ⟨lt_of_block hc, lt_of_block hr⟩
theorem IsR.ne (h : IsR w p b s) : p ≠ b := by
  obtain ⟨c, v, hc, _⟩ := h.head
  obtain ⟨r, hr⟩ := h.row
  rintro rfl
  rw [hc] at hr
  simp only [Option.some.injEq, Obj.cells.injEq] at hr
  exact absurd hr.2.1 (by decide)
/-- What waits lies in a block of its own. -/
theorem lw_off {v : Value} {L : Ws} (h : LW w v L) {g : Nat} {c : Array Value} {t : TypeId} (hg : w.heap[g]? = some (.cells c t (0, 0))) (ht : t ≠ 57) : v.ownBlock ≠ some g := by
  intro e
  rcases h.2 with ⟨rfl, _⟩ | ⟨g', cap, cur, rfl, _, hb, _⟩
  · cases e
  · simp only [Value.ownBlock, Option.some.injEq] at e
    subst e
    rw [hb] at hg
    simp only [Option.some.injEq, Obj.cells.injEq] at hg
    exact ht hg.2.1.symm
theorem lw_keep {v : Value} {L : Ws} (h : LW w v L) (k : ∀ (g : Nat) (c : Array Value), w.heap[g]? = some (Obj.cells c 57 (0, 0)) → w'.heap[g]? = w.heap[g]?) : LW w' v L := by
  obtain ⟨h1, h2⟩ := h
  refine ⟨h1, ?_⟩
  rcases h2 with h2 | ⟨g', cap, cur, h3, h4, hb, h5⟩
  · exact .inl h2
  · exact .inr ⟨g', cap, cur, h3, h4, (k _ _ hb).trans hb, h5⟩
theorem IsR.keep (h : IsR w p b s) (k : ∀ (g : Nat) (c : Array Value) (t : TypeId), w.heap[g]? = some (Obj.cells c t (0, 0)) → w'.heap[g]? = w.heap[g]?) : IsR w' p b s := by
  obtain ⟨c, v, hc, hL⟩ := h.head
  obtain ⟨r, hr⟩ := h.row
  exact ⟨⟨c, v, (k _ _ _ hc).trans hc, lw_keep hL fun g c hg => k g c 57 hg⟩, ⟨r, (k _ _ _ hr).trans hr⟩⟩
theorem IsR.below (h : IsR w p b s) (k : Below w.heap.size w w') : IsR w' p b s := h.keep fun g _ _ hg => k.block g (lt_of_block hg)
theorem IsR.drew (h : IsR w p b s) : IsR w.drew p b s := h.below (Below.refl _ _).drew
theorem IsR.alloc (h : IsR w p b s) (o : Obj) : IsR (w.alloc o) p b s := h.below (below_one w o)
theorem IsR.heads (h : IsR w p b s) : ∃ c v, w.cell? ⟨p, 0, none⟩ = some (.int .i64 s.n) ∧ w.cell? ⟨p, 1, none⟩ = some (.slice (some ⟨b, 0, none⟩) s.P.length c) ∧ w.cell? ⟨p, 2, none⟩ = some v ∧ LW w v s.L ∧ w.frozen? ⟨p, 0, none⟩ = false ∧ w.frozen? ⟨p, 2, none⟩ = false := by
  obtain ⟨c, v, hc, hL⟩ := h.head
  exact ⟨c, v, cell_of hc rfl, cell_of hc rfl, cell_of hc rfl, hL, free_of hc, free_of hc⟩
theorem IsR.cells (h : IsR w p b s) (i : Nat) (hi : i < s.P.length) : w.cell? ⟨b, i, none⟩ = some (.int .i64 (rI (s.P.getD i none))) := by
  obtain ⟨r, hr⟩ := h.row
  have := rc_at s.P i hi
  exact cell_of hr (by
    have hl : i < (rc s.P).length := by rw [rc_length]; exact hi
    simpa [List.getElem?_append_left hl] using this)
theorem IsR.free (h : IsR w p b s) (i : Nat) : w.frozen? ⟨b, i, none⟩ = false := by
  obtain ⟨r, hr⟩ := h.row
  exact free_of hr
theorem IsR.set (h : IsR w p b s) (i : Nat) (hi : i < s.P.length) (x : Option Nat) : IsR (w.setCell ⟨b, i, none⟩ (.int .i64 (rI x))) p b ⟨s.n, s.P.set i x, s.L⟩ := by
  have hne := h.ne
  obtain ⟨c, v, hc, hL⟩ := h.head
  obtain ⟨r, hr⟩ := h.row
  have hk : ∀ g, g ≠ b → (w.setCell ⟨b, i, none⟩ (.int .i64 (rI x))).heap[g]? = w.heap[g]? := fun g hg => Below.heap_setCell _ ⟨b, i, none⟩ _ g hg
  refine ⟨⟨c, v, ?_, lw_keep hL fun g c' hg => hk g fun e => ?_⟩, ⟨r, ?_⟩⟩
  · rw [hk p hne, hc]; simp
  · rw [e, hr] at hg
    simp only [Option.some.injEq, Obj.cells.injEq] at hg
    exact absurd hg.2.1 (by decide)
  · rw [heap_setCell_self hr, ← rc_set s.P i x]
    have hl : i < (rc s.P).length := by rw [rc_length]; exact hi
    simp only [List.setIfInBounds_toArray]
    rw [List.set_append_left _ _ hl]
theorem IsR.setN (h : IsR w p b s) (n : Nat) : IsR (w.setCell ⟨p, 0, none⟩ (.int .i64 (n : Nat))) p b ⟨n, s.P, s.L⟩ := by
  have hne := h.ne
  obtain ⟨c, v, hc, hL⟩ := h.head
  obtain ⟨r, hr⟩ := h.row
  have hk : ∀ g, g ≠ p → (w.setCell ⟨p, 0, none⟩ (.int .i64 (n : Nat))).heap[g]? = w.heap[g]? := fun g hg => Below.heap_setCell _ ⟨p, 0, none⟩ _ g hg
  refine ⟨⟨c, v, ?_, lw_keep hL fun g c' hg => hk g fun e => ?_⟩, ⟨r, (hk b hne.symm).trans hr⟩⟩
  · rw [heap_setCell_self hc]; rfl
  · rw [e, hc] at hg
    simp only [Option.some.injEq, Obj.cells.injEq] at hg
    exact absurd hg.2.1 (by decide)
/-- What waits is laid anew. -/
theorem IsR.setL (h : IsR w p b s) {v : Value} {L : Ws} (hL : LW w v L) : IsR (w.setCell ⟨p, 2, none⟩ v) p b ⟨s.n, s.P, L⟩ := by
  have hne := h.ne
  obtain ⟨c, v0, hc, _⟩ := h.head
  obtain ⟨r, hr⟩ := h.row
  have hk : ∀ g, g ≠ p → (w.setCell ⟨p, 2, none⟩ v).heap[g]? = w.heap[g]? := fun g hg => Below.heap_setCell _ ⟨p, 2, none⟩ _ g hg
  refine ⟨⟨c, v, ?_, lw_keep hL fun g c' hg => hk g fun e => ?_⟩, ⟨r, (hk b hne.symm).trans hr⟩⟩
  · rw [heap_setCell_self hc]; rfl
  · rw [e, hc] at hg
    simp only [Option.some.injEq, Obj.cells.injEq] at hg
    exact absurd hg.2.1 (by decide)
theorem IsR.bt (h : IsR w p b s) {p' b' m' : Nat} (k : Bt p' b' m' w w') (hp : p ≠ p' ∧ p ≠ b' ∧ p ≠ m') (hb : b ≠ p' ∧ b ≠ b' ∧ b ≠ m') (hL : ∀ (g : Nat) (c : Array Value), w.heap[g]? = some (Obj.cells c 57 (0, 0)) → g ≠ p' ∧ g ≠ b' ∧ g ≠ m') : IsR w' p b s := by
  obtain ⟨c, v, hc, hLw⟩ := h.head
  obtain ⟨r, hr⟩ := h.row
  exact ⟨⟨c, v, (k.block _ (lt_of_block hc) hp.1 hp.2.1 hp.2.2).trans hc, lw_keep hLw fun g c hg => k.block g (lt_of_block hg) (hL g c hg).1 (hL g c hg).2.1 (hL g c hg).2.2⟩, ⟨r, (k.block _ (lt_of_block hr) hb.1 hb.2.1 hb.2.2).trans hr⟩⟩
end

/-! ### Pin, Unpin -/
set_option maxHeartbeats 400000 in
theorem rpin_out {w : World} {p b : Nat} {s : Ep} (h : IsR w p b s) (f : Int) (hf : ¬ isC s f) :
    Calls Try.prog 11 #[.pointer (some ⟨p, 0, none⟩), .int .i64 f] w fun e w' => e = .returned (.int .i64 2) ∧ w' = w := by
  obtain ⟨c, v, -, hc, -, -, -, -⟩ := h.heads
  clear h
  unfold isC at hf
  generalize s.P.length = n at hc hf
  by_cases h0 : f < 0
  · clear hf
    go_enter Try.func11, Try.ntmps11
    go_wp2
    go_ret
    exact ⟨rfl, rfl⟩
  · have h1 : (n : Int) ≤ f := by omega
    clear hf
    go_enter Try.func11, Try.ntmps11
    go_wp2
    go_ret
    exact ⟨rfl, rfl⟩
set_option maxHeartbeats 400000 in
theorem runpin_out {w : World} {p b : Nat} {s : Ep} (h : IsR w p b s) (f : Int) (hf : ¬ isC s f) :
    Calls Try.prog 13 #[.pointer (some ⟨p, 0, none⟩), .int .i64 f] w fun e w' => e = .returned (.int .i64 2) ∧ w' = w := by
  obtain ⟨c, v, -, hc, -, -, -, -⟩ := h.heads
  clear h
  unfold isC at hf
  generalize s.P.length = n at hc hf
  by_cases h0 : f < 0
  · clear hf
    go_enter Try.func13, Try.ntmps13
    go_wp2
    go_ret
    exact ⟨rfl, rfl⟩
  · have h1 : (n : Int) ≤ f := by omega
    clear hf
    go_enter Try.func13, Try.ntmps13
    go_wp2
    go_ret
    exact ⟨rfl, rfl⟩
set_option maxRecDepth 100000 in
set_option maxHeartbeats 1000000 in
theorem rpin_in {w : World} {p b : Nat} {s : Ep} (h : IsR w p b s) (h8 : s.P.length ≤ 8) (i : Nat) (hi : i < s.P.length) :
    Calls Try.prog 11 #[.pointer (some ⟨p, 0, none⟩), .int .i64 i] w fun e w' => e = .returned (.int .i64 (if (s.P.getD i none).isSome = true then 6 else 0)) ∧ IsR w' p b (if (s.P.getD i none).isSome = true then s else ⟨s.n, s.P.set i (some s.n), s.L⟩) ∧ Bt p b b w w' := by
  have HE := hid h
  obtain ⟨c, v, hc0, hc, -, -, -, -⟩ := h.heads
  have c0 := h.cells i hi
  have f0 := h.free i
  have HI := hid hi
  have h0 : ¬ (i : Int) < 0 := by omega
  have h1 : ¬ (s.P.length : Int) ≤ i := by omega
  have hw : IntKind.i64.wrap (i : Int) = i := i64w (by omega) (by omega)
  by_cases hx : (s.P.getD i none).isSome = true
  · rw [if_pos hx, if_pos hx]
    rw [rI_some hx] at c0
    generalize (s.P.getD i none).getD 0 = y at *
    have h2 : (0 : Int) ≤ (y : Int) := by omega
    clear h hx f0
    generalize s.P.length = n at hc hi h1 h8
    go_enter Try.func11, Try.ntmps11
    go_wp2
    go_ret
    exact ⟨rfl, HE.out, Bt.refl _ _ _ _⟩
  · rw [if_neg hx, if_neg hx]
    rw [rI_none hx] at c0
    have c0' : w.cell? ⟨b, i, none⟩ = some (.int .i64 (-1)) := c0
    clear h hx c0
    generalize hn : s.P.length = n at hc hi h1 h8
    have HN := hid hn
    clear hn
    have HS := hid (HE.out.set i HI.out (some s.n))
    have hr : rI (some s.n) = (s.n : Nat) := rfl
    rw [hr] at HS
    generalize s.n = k at *
    clear hr
    go_enter Try.func11, Try.ntmps11
    go_wp2_with fail
    go_region
    all_goals
      go_wp2
      go_ret
      exact ⟨rfl, HS.out.drew, (Bt.setRow w _ _).drew⟩
set_option maxRecDepth 100000 in
set_option maxHeartbeats 1000000 in
theorem runpin_in {w : World} {p b : Nat} {s : Ep} (h : IsR w p b s) (h8 : s.P.length ≤ 8) (i : Nat) (hi : i < s.P.length) :
    Calls Try.prog 13 #[.pointer (some ⟨p, 0, none⟩), .int .i64 i] w fun e w' => e = .returned (.int .i64 (if (s.P.getD i none).isSome = true then 0 else 6)) ∧ IsR w' p b (if (s.P.getD i none).isSome = true then ⟨s.n, s.P.set i none, s.L⟩ else s) ∧ Bt p b b w w' := by
  have HE := hid h
  obtain ⟨c, v, -, hc, -, -, -, -⟩ := h.heads
  have c0 := h.cells i hi
  have f0 := h.free i
  have HI := hid hi
  have h0 : ¬ (i : Int) < 0 := by omega
  have h1 : ¬ (s.P.length : Int) ≤ i := by omega
  have hw : IntKind.i64.wrap (i : Int) = i := i64w (by omega) (by omega)
  by_cases hx : (s.P.getD i none).isSome = true
  · rw [if_pos hx, if_pos hx]
    have HS : Hid (IsR (w.setCell ⟨b, i, none⟩ (.int .i64 (-1))) p b ⟨s.n, s.P.set i none, s.L⟩) := HE.out.set i HI.out none
    rw [rI_some hx] at c0
    generalize (s.P.getD i none).getD 0 = y at *
    have h2 : ¬ (y : Int) < 0 := by omega
    clear h hx
    generalize hn : s.P.length = n at hc hi h1 h8
    clear hn
    go_enter Try.func13, Try.ntmps13
    go_wp2
    go_ret
    exact ⟨rfl, HS.out, Bt.setRow w _ _⟩
  · rw [if_neg hx, if_neg hx]
    rw [rI_none hx] at c0
    have c0' : w.cell? ⟨b, i, none⟩ = some (.int .i64 (-1)) := c0
    clear h hx c0
    generalize s.P.length = n at hc hi h1 h8
    go_enter Try.func13, Try.ntmps13
    go_wp2
    go_ret
    exact ⟨rfl, HE.out, Bt.refl _ _ _ _⟩
theorem rpin_at {w : World} {p b B : Nat} {s : Ep} (h : IsR w p b s) (k : Ok B s) (f : Int) :
    Calls Try.prog 11 #[.pointer (some ⟨p, 0, none⟩), .int .i64 f] w fun e w' => e = .returned (.int .i64 (pinE s f)) ∧ IsR w' p b (pinS s f) ∧ Bt p b b w w' := by
  by_cases hf : isC s f
  · obtain ⟨i, rfl⟩ : ∃ i : Nat, f = i := ⟨f.toNat, by have := hf.1; omega⟩
    have hi : i < s.P.length := by have := hf.2; omega
    have he : pinE s i = if (s.P.getD i none).isSome = true then 6 else 0 := by unfold pinE; rw [if_pos hf]; rfl
    have hs : pinS s i = if (s.P.getD i none).isSome = true then s else ⟨s.n, s.P.set i (some s.n), s.L⟩ := by
      unfold pinS
      rw [he]
      by_cases hx : (s.P.getD i none).isSome = true
      · rw [if_pos hx, if_pos hx, if_neg (by decide)]
      · rw [if_neg hx, if_neg hx, if_pos rfl, Int.toNat_natCast]
    rw [he, hs]
    exact rpin_in h k.cpus i hi
  · have he : pinE s f = 2 := by unfold pinE; rw [if_neg hf]
    have hs : pinS s f = s := by unfold pinS; rw [he, if_neg (by decide)]
    rw [he, hs]
    refine (rpin_out h f hf).mono ?_
    rintro e w' ⟨rfl, hw⟩
    rw [hw]
    exact ⟨rfl, h, Bt.refl _ _ _ _⟩
theorem runpin_at {w : World} {p b B : Nat} {s : Ep} (h : IsR w p b s) (k : Ok B s) (f : Int) :
    Calls Try.prog 13 #[.pointer (some ⟨p, 0, none⟩), .int .i64 f] w fun e w' => e = .returned (.int .i64 (unE s f)) ∧ IsR w' p b (unS s f) ∧ Bt p b b w w' := by
  by_cases hf : isC s f
  · obtain ⟨i, rfl⟩ : ∃ i : Nat, f = i := ⟨f.toNat, by have := hf.1; omega⟩
    have hi : i < s.P.length := by have := hf.2; omega
    have he : unE s i = if (s.P.getD i none).isSome = true then 0 else 6 := by unfold unE; rw [if_pos hf]; rfl
    have hs : unS s i = if (s.P.getD i none).isSome = true then ⟨s.n, s.P.set i none, s.L⟩ else s := by
      unfold unS
      rw [he]
      by_cases hx : (s.P.getD i none).isSome = true
      · rw [if_pos hx, if_pos hx, if_pos rfl, Int.toNat_natCast]
      · rw [if_neg hx, if_neg hx, if_neg (by decide)]
    rw [he, hs]
    exact runpin_in h k.cpus i hi
  · have he : unE s f = 2 := by unfold unE; rw [if_neg hf]
    have hs : unS s f = s := by unfold unS; rw [he, if_neg (by decide)]
    rw [he, hs]
    refine (runpin_out h f hf).mono ?_
    rintro e w' ⟨rfl, hw⟩
    rw [hw]
    exact ⟨rfl, h, Bt.refl _ _ _ _⟩
end Go.Proofs.Ythiicngnhnglfaa
