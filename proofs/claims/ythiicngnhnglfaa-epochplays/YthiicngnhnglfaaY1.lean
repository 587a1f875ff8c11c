/- What EpochSafe keeps beside the epochs: since when each CPU is pinned, and what was so when a frame was retired; the invariant, that holds behind each call; both lists in memory. Of no function; no conditions. -/
import Derived.Test.YthiicngnhnglfaaL5
namespace Go.Proofs.Ythiicngnhnglfaa
open Go.RowKit

/-! ### Pure -/
def upd (S : Nat → Nat) (c v : Nat) : Nat → Nat := fun x => if x = c then v else S x
abbrev Zs := Nat → Option (Nat → Nat)
def updZ (Z : Zs) (f : Nat) (v : Option (Nat → Nat)) : Zs := fun x => if x = f then v else Z x
structure Sf (i : Nat) (s : Ep) (S : Nat → Nat) (Z : Zs) : Prop where
  len : s.P.length = 4
  small : ∀ p ∈ s.L, p.1 < 64
  near : Near s
  pinned : ∀ c, c < 4 → S c ≠ 0 → (s.P.getD c none).isSome = true
  top : ∀ c, S c ≤ i
  ztop : ∀ f z, Z f = some z → ∀ c, z c ≤ i
  has : ∀ f a, (f, a) ∈ s.L → ∃ z, Z f = some z ∧ ∀ c, c < 4 → z c ≠ 0 → S c = z c → ∃ x, s.P.getD c none = some x ∧ x ≤ a
section
variable {i : Nat} {s : Ep} {S : Nat → Nat} {Z : Zs}
theorem Sf.mono (h : Sf i s S Z) : Sf (i + 1) s S Z :=
  ⟨h.len, h.small, h.near, h.pinned, fun c => Nat.le_succ_of_le (h.top c), fun f z e c => Nat.le_succ_of_le (h.ztop f z e c), h.has⟩
theorem pinE_at {c : Nat} (hc : c < s.P.length) : pinE s c = if (s.P.getD c none).isSome = true then 6 else 0 := by
  have : isC s (c : Int) := ⟨by omega, by omega⟩
  unfold pinE
  rw [if_pos this]
  rfl
theorem unE_at {c : Nat} (hc : c < s.P.length) : unE s c = if (s.P.getD c none).isSome = true then 0 else 6 := by
  have : isC s (c : Int) := ⟨by omega, by omega⟩
  unfold unE
  rw [if_pos this]
  rfl
theorem Sf.pinOk (h : Sf i s S Z) {c : Nat} (hc : c < 4) (he : pinE s c = 0) : Sf (i + 1) (pinS s c) (upd S c (i + 1)) Z := by
  have hS : pinS s c = ⟨s.n, s.P.set c (some s.n), s.L⟩ := by unfold pinS; rw [if_pos he, Int.toNat_natCast]
  rw [hS]
  have hl := h.len
  refine ⟨by simpa using hl, h.small, hS ▸ h.near.pin c, fun d hd hne => ?_, fun d => ?_, fun f z e d => Nat.le_succ_of_le (h.ztop f z e d), fun f a hm => ?_⟩
  · show ((s.P.set c (some s.n)).getD d none).isSome = true
    rw [getD_set]
    by_cases e : c = d
    · rw [if_pos ⟨e, by omega⟩]; rfl
    · rw [if_neg (fun q => e q.1)]
      unfold upd at hne
      rw [if_neg (fun q => e q.symm)] at hne
      exact h.pinned d hd hne
  · unfold upd
    split
    · exact Nat.le_refl _
    · exact Nat.le_succ_of_le (h.top d)
  · obtain ⟨z, hz, hh⟩ := h.has f a hm
    refine ⟨z, hz, fun d hd hne he => ?_⟩
    unfold upd at he
    by_cases e : d = c
    · rw [if_pos e] at he
      have := h.ztop f z hz d
      omega
    · rw [if_neg e] at he
      obtain ⟨x, hx, hxa⟩ := hh d hd hne he
      refine ⟨x, ?_, hxa⟩
      show (s.P.set c (some s.n)).getD d none = some x
      rw [getD_set, if_neg (fun q => e q.1.symm)]
      exact hx
theorem Sf.unOk (h : Sf i s S Z) {c : Nat} (he : unE s c = 0) : Sf (i + 1) (unS s c) (upd S c 0) Z := by
  have hS : unS s c = ⟨s.n, s.P.set c none, s.L⟩ := by unfold unS; rw [if_pos he, Int.toNat_natCast]
  rw [hS]
  have hl := h.len
  refine ⟨by simpa using hl, h.small, hS ▸ h.near.un c, fun d hd hne => ?_, fun d => ?_, fun f z e d => Nat.le_succ_of_le (h.ztop f z e d), fun f a hm => ?_⟩
  · show ((s.P.set c none).getD d none).isSome = true
    unfold upd at hne
    by_cases e : d = c
    · rw [if_pos e] at hne; exact absurd rfl hne
    · rw [getD_set, if_neg (fun q => e q.1.symm)]
      rw [if_neg e] at hne
      exact h.pinned d hd hne
  · unfold upd
    split
    · omega
    · exact Nat.le_succ_of_le (h.top d)
  · obtain ⟨z, hz, hh⟩ := h.has f a hm
    refine ⟨z, hz, fun d hd hne he => ?_⟩
    unfold upd at he
    by_cases e : d = c
    · rw [if_pos e] at he
      omega
    · rw [if_neg e] at he
      obtain ⟨x, hx, hxa⟩ := hh d hd hne he
      refine ⟨x, ?_, hxa⟩
      show (s.P.set c none).getD d none = some x
      rw [getD_set, if_neg (fun q => e q.1.symm)]
      exact hx
theorem Sf.retOk {B : Nat} (h : Sf i s S Z) (k : Ok B s) {f : Nat} (hf : f < 64) (he : retE s f = 0) : Sf (i + 1) (retS s f) S (updZ Z f (some S)) := by
  obtain ⟨_, hW⟩ := retE_ok he
  rw [Int.toNat_natCast] at hW
  have hS : retS s f = ⟨s.n, s.P, ins f s.n s.L⟩ := by unfold retS; rw [if_pos he, Int.toNat_natCast]
  rw [hS]
  refine ⟨h.len, fun p hp => ?_, h.near, h.pinned, fun c => Nat.le_succ_of_le (h.top c), fun g z e c => ?_, fun g a hm => ?_⟩
  · rcases ins_mem.1 hp with rfl | hp
    · exact hf
    · exact h.small p hp
  · unfold updZ at e
    split at e
    · cases e; exact Nat.le_succ_of_le (h.top c)
    · exact Nat.le_succ_of_le (h.ztop g z e c)
  · rcases ins_mem.1 hm with e | hm
    · cases e
      refine ⟨S, by simp [updZ], fun c hc hne _ => ?_⟩
      obtain ⟨x, hx⟩ := Option.isSome_iff_exists.1 (h.pinned c hc hne)
      have hlc : c < s.P.length := by rw [h.len]; exact hc
      have hmem : some x ∈ s.P := by rw [← hx]; simp [List.getD, hlc]
      exact ⟨x, hx, k.pins x hmem⟩
    · obtain ⟨z, hz, hh⟩ := h.has g a hm
      have hne : g ≠ f := fun e => hasW_not hW (a := a) (by rw [← e]; exact hm)
      exact ⟨z, by unfold updZ; rw [if_neg hne]; exact hz, hh⟩
theorem Sf.adv (h : Sf i s S Z) : Sf (i + 1) (advS s) S Z := by
  have hP : (advS s).P = s.P := by unfold advS; split <;> rfl
  have hL : (advS s).L = s.L := by unfold advS; split <;> rfl
  refine ⟨by rw [hP]; exact h.len, by rw [hL]; exact h.small, h.near.adv, by rw [hP]; exact h.pinned, fun c => Nat.le_succ_of_le (h.top c), fun f z e c => Nat.le_succ_of_le (h.ztop f z e c), ?_⟩
  rw [hP, hL]
  exact h.has
/-- The first j freed frames are struck. -/
def zf (Z : Zs) (l : List Nat) (j : Nat) : Zs := fun f => if (l.take j).contains f then none else Z f
theorem zf_zero (Z : Zs) (l : List Nat) : zf Z l 0 = Z := by funext f; simp [zf]
theorem zf_succ (Z : Zs) (l : List Nat) (j : Nat) (hj : j < l.length) : zf Z l (j + 1) = updZ (zf Z l j) (l.getD j 0) none := by
  funext f
  unfold zf updZ
  rw [take_snoc l j hj]
  by_cases h : f = l.getD j 0
  · rw [if_pos h]
    simp [h]
  · rw [if_neg h]
    have : (l.take j ++ [l.getD j 0]).contains f = (l.take j).contains f := by
      simp only [List.contains_eq_mem, List.mem_append, List.mem_singleton, h, or_false]
    rw [this]
theorem Sf.freed (h : Sf i s S Z) (hU : Up s.L) : Sf (i + 1) (frS s) S (zf Z (frL s) (frL s).length) := by
  refine ⟨h.len, fun p hp => h.small p (List.mem_filter.1 hp).1, h.near, h.pinned, fun c => Nat.le_succ_of_le (h.top c), fun f z e c => ?_, fun f a hm => ?_⟩
  · unfold zf at e
    split at e
    · cases e
    · exact Nat.le_succ_of_le (h.ztop f z e c)
  · obtain ⟨hm, hl⟩ := List.mem_filter.1 hm
    obtain ⟨z, hz, hh⟩ := h.has f a hm
    refine ⟨z, ?_, hh⟩
    unfold zf
    rw [List.take_length, if_neg]
    · exact hz
    · intro hc
      have hin : f ∈ frL s := by simpa using hc
      obtain ⟨a', ha', hle⟩ := tl_mem.1 hin
      rw [up_apart hU ha' hm] at hle
      simp [hle] at hl
/-- A frame that is freed: it was noted, and none of the pins of then is there still. -/
theorem Sf.freed_at (h : Sf i s S Z) (hU : Up s.L) {j : Nat} (hj : j < (frL s).length) : (frL s).getD j 0 < 64 ∧ ∃ z, zf Z (frL s) j ((frL s).getD j 0) = some z ∧ ∀ c, c < 4 → z c ≠ 0 → S c ≠ z c := by
  have hin : (frL s).getD j 0 ∈ frL s := by simp [List.getD, hj]
  obtain ⟨a, ha, hle⟩ := tl_mem.1 hin
  obtain ⟨z, hz, hh⟩ := h.has _ a ha
  refine ⟨h.small _ ha, z, ?_, fun c hc hne he => ?_⟩
  · unfold zf
    rw [if_neg]
    · exact hz
    · intro hc
      have hm : (frL s).getD j 0 ∈ (frL s).take j := by simpa using hc
      obtain ⟨d, hd, e⟩ := List.getElem_of_mem hm
      have hdj : d < j := by simp at hd; omega
      rw [List.getElem_take] at e
      have hp : (frL s).Pairwise (· < ·) := tl_up hU _
      have := List.pairwise_iff_getElem.1 hp d j (by omega) hj hdj
      have e2 : (frL s).getD j 0 = (frL s)[j] := by simp [List.getD, hj]
      omega
  · obtain ⟨x, hx, hxa⟩ := hh c hc hne he
    have hlc : c < s.P.length := by rw [h.len]; exact hc
    have hmem : some x ∈ s.P := by rw [← hx]; simp [List.getD, hlc]
    have := h.near x hmem
    omega
theorem Sf.start : Sf 0 (ep0 4) (fun _ => 0) (fun _ => none) :=
  ⟨by simp [ep0], fun p hp => (by cases hp), fun a ha => (by simp [ep0] at ha), fun c _ h => absurd rfl h, fun _ => Nat.le_refl _, fun f z e => (by cases e), fun f a hm => (by cases hm)⟩
end

/-! ### In memory -/
def sc (S : Nat → Nat) : List Value := (List.range 4).map fun c => .int .i64 (S c : Nat)
theorem sc_length (S : Nat → Nat) : (sc S).length = 4 := by simp [sc]
theorem sc_at (S : Nat → Nat) {c : Nat} (hc : c < 4) : (sc S)[c]? = some (.int .i64 (S c : Nat)) := by simp [sc, hc]
theorem sc_set (S : Nat → Nat) (c v : Nat) : (sc S).set c (.int .i64 (v : Nat)) = sc (upd S c v) := by
  apply List.ext_getElem
  · simp [sc]
  · intro i h1 h2
    have hi : i < 4 := by simpa [sc] using h2
    rw [List.getElem_set]
    by_cases h : c = i
    · subst h; simp [sc, upd]
    · rw [if_neg h]
      simp [sc, upd, Ne.symm h]
/-- What lies in a cell of the list of what was seen. -/
def Cell1 (w : World) (bs : Nat) (v : Option Value) : Option (Nat → Nat) → Prop
  | none => v = some (.slice none 0 0)
  | some z => ∃ g, v = some (.slice (some ⟨g, 0, none⟩) 4 4) ∧ g ≠ bs ∧ w.heap[g]? = some (.cells ⟨sc z⟩ 3 (0, 0))
theorem Cell1.keep {w w' : World} {bs : Nat} {v : Option Value} {o : Option (Nat → Nat)} (h : Cell1 w bs v o) (k : ∀ g z, g ≠ bs → w.heap[g]? = some (.cells ⟨sc z⟩ 3 (0, 0)) → w'.heap[g]? = w.heap[g]?) : Cell1 w' bs v o := by
  cases o with
  | none => exact h
  | some z =>
    obtain ⟨g, h1, h2, h3⟩ := h
    exact ⟨g, h1, h2, (k g z h2 h3).trans h3⟩
structure SW (w0 w : World) (p b m bs bn B : Nat) (s : Ep) (S : Nat → Nat) (Z : Zs) : Prop where
  ow : Ow w0 w p b m B s
  since : w.heap[bs]? = some (.cells ⟨sc S⟩ 3 (0, 0))
  seen : ∃ V : List Value, w.heap[bn]? = some (.cells ⟨V⟩ 35 (0, 0)) ∧ V.length = 64 ∧ ∀ f, f < 64 → Cell1 w bs V[f]? (Z f)
  hs : w0.heap.size ≤ bs
  hn : w0.heap.size ≤ bn
section
variable {w0 w w' : World} {p b m bs bn B : Nat} {s : Ep} {S : Nat → Nat} {Z : Zs}
/-- A block of whole numbers, or of lists, is none of the epochs' three. -/
theorem apart_of {c : Array Value} {t : TypeId} {g : Nat} (h : IsE w p b m s) (hg : w.heap[g]? = some (.cells c t (0, 0))) (h1 : t ≠ 51) (h2 : t ≠ 55) : g ≠ p ∧ g ≠ b ∧ g ≠ m := by
  obtain ⟨c1, hc⟩ := h.head
  obtain ⟨r, hr⟩ := h.row
  obtain ⟨es, k, hm, _⟩ := h.map
  refine ⟨fun e => ?_, fun e => ?_, fun e => ?_⟩
  · rw [← e, hg] at hc
    simp only [Option.some.injEq, Obj.cells.injEq] at hc
    exact h1 hc.2.1
  · rw [← e, hg] at hr
    simp only [Option.some.injEq, Obj.cells.injEq] at hr
    exact h2 hr.2.1
  · rw [← e, hg] at hm; simp at hm
theorem SW.step {s' : Ep} {B' : Nat} (h : SW w0 w p b m bs bn B s S Z) (k : Bt p b m w w') (hO : Ow w0 w' p b m B' s') : SW w0 w' p b m bs bn B' s' S Z := by
  have kb : ∀ {g : Nat} {c : Array Value} {t : TypeId}, w.heap[g]? = some (.cells c t (0, 0)) → t ≠ 51 → t ≠ 55 → w'.heap[g]? = w.heap[g]? := fun hg h1 h2 => by
    obtain ⟨k1, k2, k3⟩ := apart_of h.ow.ep hg h1 h2
    exact k.block _ (lt_of_block hg) k1 k2 k3
  obtain ⟨V, hV, hl, hc⟩ := h.seen
  exact ⟨hO, (kb h.since (by decide) (by decide)).trans h.since, ⟨V, (kb hV (by decide) (by decide)).trans hV, hl, fun f hf => (hc f hf).keep fun g z _ hg => kb hg (by decide) (by decide)⟩, h.hs, h.hn⟩
theorem SW.below (h : SW w0 w p b m bs bn B s S Z) (k : Below w.heap.size w w') : SW w0 w' p b m bs bn B s S Z := h.step (Bt.of_below k) (h.ow.below k)
theorem SW.mono (h : SW w0 w p b m bs bn B s S Z) {B' : Nat} (k : B ≤ B') : SW w0 w p b m bs bn B' s S Z := ⟨h.ow.mono k, h.since, h.seen, h.hs, h.hn⟩
theorem SW.drew (h : SW w0 w p b m bs bn B s S Z) : SW w0 w.drew p b m bs bn B s S Z := h.below (Below.refl _ _).drew
theorem Ow.setAt (h : Ow w0 w p b m B s) {g i : Nat} (u : Value) (hg : w0.heap.size ≤ g) (k : g ≠ p ∧ g ≠ b ∧ g ≠ m) : Ow w0 (w.setCell ⟨g, i, none⟩ u) p b m B s := by
  have hb : ∀ x, x ≠ g → (w.setCell ⟨g, i, none⟩ u).heap[x]? = w.heap[x]? := fun x hx => Below.heap_setCell w ⟨g, i, none⟩ u x hx
  exact ⟨h.ep.keep (hb p k.1.symm) (hb b k.2.1.symm) (hb m k.2.2.symm), h.ok, h.bel.setCell (p := ⟨g, i, none⟩) hg u, h.hp, h.hb, h.hm⟩
/-- since[c] = v. -/
theorem SW.setS (h : SW w0 w p b m bs bn B s S Z) {c : Nat} (v : Nat) : SW w0 (w.setCell ⟨bs, c, none⟩ (.int .i64 (v : Nat))) p b m bs bn B s (upd S c v) Z := by
  obtain ⟨V, hV, hl, hc⟩ := h.seen
  have hne : bn ≠ bs := by
    rintro rfl
    have := h.since
    rw [hV] at this
    simp only [Option.some.injEq, Obj.cells.injEq] at this
    exact absurd this.2.1 (by decide)
  have hb : ∀ x, x ≠ bs → (w.setCell ⟨bs, c, none⟩ (.int .i64 (v : Nat))).heap[x]? = w.heap[x]? := fun x hx => Below.heap_setCell w ⟨bs, c, none⟩ _ x hx
  refine ⟨h.ow.setAt _ h.hs (apart_of h.ow.ep h.since (by decide) (by decide)), ?_, ⟨V, (hb bn hne).trans hV, hl, fun f hf => (hc f hf).keep fun g z hg _ => hb g hg⟩, h.hs, h.hn⟩
  rw [heap_setCell_self h.since, List.setIfInBounds_toArray, sc_set]
/-- seen[f] = nil. -/
theorem SW.setNil (h : SW w0 w p b m bs bn B s S Z) (f : Nat) : SW w0 (w.setCell ⟨bn, f, none⟩ (.slice none 0 0)) p b m bs bn B s S (updZ Z f none) := by
  obtain ⟨V, hV, hl, hc⟩ := h.seen
  have hne : bs ≠ bn := by
    rintro rfl
    have := h.since
    rw [hV] at this
    simp only [Option.some.injEq, Obj.cells.injEq] at this
    exact absurd this.2.1 (by decide)
  have hb : ∀ x, x ≠ bn → (w.setCell ⟨bn, f, none⟩ (.slice none 0 0)).heap[x]? = w.heap[x]? := fun x hx => Below.heap_setCell w ⟨bn, f, none⟩ _ x hx
  refine ⟨h.ow.setAt _ h.hn (apart_of h.ow.ep hV (by decide) (by decide)), (hb bs hne).trans h.since, ⟨V.set f (.slice none 0 0), ?_, by simpa using hl, fun x hx => ?_⟩, h.hs, h.hn⟩
  · rw [heap_setCell_self hV, List.setIfInBounds_toArray]
  · unfold updZ
    rw [List.getElem?_set]
    by_cases e : f = x
    · subst e
      rw [if_pos rfl, if_pos rfl, if_pos (by rw [hl]; exact hx)]
      rfl
    · rw [if_neg e, if_neg (Ne.symm e)]
      refine (hc x hx).keep fun g z _ hg => hb g fun e2 => ?_
      rw [e2, hV] at hg
      simp only [Option.some.injEq, Obj.cells.injEq] at hg
      exact absurd hg.2.1 (by decide)
/-- seen[f] = a copy of since. -/
theorem SW.setNew (h : SW w0 w p b m bs bn B s S Z) (f : Nat) : SW w0 ((w.alloc (.cells ⟨sc S⟩ 3)).setCell ⟨bn, f, none⟩ (.slice (some ⟨w.heap.size, 0, none⟩) 4 4)) p b m bs bn B s S (updZ Z f (some S)) := by
  have h' := h.below (below_one w (.cells ⟨sc S⟩ 3))
  have hlt := lt_of_block h.since
  obtain ⟨V, hV, hl, hc⟩ := h'.seen
  have hne : bs ≠ bn := by
    rintro rfl
    have := h'.since
    rw [hV] at this
    simp only [Option.some.injEq, Obj.cells.injEq] at this
    exact absurd this.2.1 (by decide)
  have hb : ∀ x, x ≠ bn → ((w.alloc (.cells ⟨sc S⟩ 3)).setCell ⟨bn, f, none⟩ (.slice (some ⟨w.heap.size, 0, none⟩) 4 4)).heap[x]? = (w.alloc (.cells ⟨sc S⟩ 3)).heap[x]? := fun x hx => Below.heap_setCell _ ⟨bn, f, none⟩ _ x hx
  have hnew := heap_alloc_new w (.cells ⟨sc S⟩ 3)
  have hbn : w.heap.size ≠ bn := fun e => by
    rw [e, hV] at hnew
    simp only [Option.some.injEq, Obj.cells.injEq] at hnew
    exact absurd hnew.2.1 (by decide)
  refine ⟨h'.ow.setAt _ h.hn (apart_of h'.ow.ep hV (by decide) (by decide)), (hb bs hne).trans h'.since, ⟨V.set f (.slice (some ⟨w.heap.size, 0, none⟩) 4 4), ?_, by simpa using hl, fun x hx => ?_⟩, h.hs, h.hn⟩
  · rw [heap_setCell_self hV, List.setIfInBounds_toArray]
  · unfold updZ
    rw [List.getElem?_set]
    by_cases e : f = x
    · subst e
      rw [if_pos rfl, if_pos rfl, if_pos (by rw [hl]; exact hx)]
      exact ⟨_, rfl, by omega, (hb _ hbn).trans hnew⟩
    · rw [if_neg e, if_neg (Ne.symm e)]
      refine (hc x hx).keep fun g z _ hg => hb g fun e2 => ?_
      rw [e2, hV] at hg
      simp only [Option.some.injEq, Obj.cells.injEq] at hg
      exact absurd hg.2.1 (by decide)
theorem SW.sinceAt (h : SW w0 w p b m bs bn B s S Z) {c : Nat} (hc : c < 4) : w.cell? ⟨bs, c, none⟩ = some (.int .i64 (S c : Nat)) := cell_of h.since (by simpa using sc_at S hc)
theorem SW.seenAt (h : SW w0 w p b m bs bn B s S Z) {f : Nat} (hf : f < 64) {z : Nat → Nat} (hz : Z f = some z) : ∃ g, w.cell? ⟨bn, f, none⟩ = some (.slice (some ⟨g, 0, none⟩) 4 4) ∧ ∀ c, c < 4 → w.cell? ⟨g, c, none⟩ = some (.int .i64 (z c : Nat)) := by
  obtain ⟨V, hV, hl, hc⟩ := h.seen
  have := hc f hf
  rw [hz] at this
  obtain ⟨g, h1, _, h3⟩ := this
  exact ⟨g, cell_of hV (by simpa using h1), fun c hc => cell_of h3 (by simpa using sc_at z hc)⟩
theorem SW.seenCell (h : SW w0 w p b m bs bn B s S Z) {f : Nat} (hf : f < 64) : (∃ v, w.cell? ⟨bn, f, none⟩ = some v) ∧ w.frozen? ⟨bn, f, none⟩ = false := by
  obtain ⟨V, hV, hl, _⟩ := h.seen
  exact ⟨⟨V[f]'(by omega), cell_of hV (by simp [hl, hf])⟩, free_of hV⟩
theorem SW.sinceFree (h : SW w0 w p b m bs bn B s S Z) (c : Nat) : w.frozen? ⟨bs, c, none⟩ = false := free_of h.since
end
end Go.Proofs.Ythiicngnhnglfaa
