/- The epochs as the document has them: the epoch, at which each CPU is pinned, what waits (rising); what each call tells and leaves. A map that reads as what waits. Of no program; no conditions. -/
import Derived.Maps.RangeWalk
import Derived.Maps.OwnSet
import Derived.WalkKit
import Derived.Below
import Derived.Test.YthiicngnhnglfaaProg
namespace Go.Proofs.Ythiicngnhnglfaa
open Go.Maps Go.RowKit

theorem hid {p : Prop} (h : p) : Hid p := h

/-! ### What waits: frames, each with the epoch in which it was retired, rising -/
abbrev Ws := List (Nat × Nat)
def Up (L : Ws) : Prop := L.Pairwise (fun p q => p.1 < q.1)
def hasW (f : Nat) (L : Ws) : Bool := L.any (fun p => p.1 == f)
def ins (f a : Nat) : Ws → Ws
  | [] => [(f, a)]
  | p :: r => if p.1 < f then p :: ins f a r else (f, a) :: p :: r
/-- Those that were retired in the epoch last or earlier. -/
def tl (last : Int) (L : Ws) : List Nat := (L.filter fun p => decide ((p.2 : Int) ≤ last)).map (·.1)
/-- What stays when they go. -/
def lv (last : Int) (L : Ws) : Ws := L.filter fun p => !decide ((p.2 : Int) ≤ last)

theorem hasW_iff {f : Nat} {L : Ws} : hasW f L = true ↔ ∃ a, (f, a) ∈ L := by
  unfold hasW
  rw [List.any_eq_true]
  constructor
  · rintro ⟨⟨g, a⟩, h1, h2⟩
    obtain rfl : g = f := by simpa using h2
    exact ⟨a, h1⟩
  · rintro ⟨a, h⟩
    exact ⟨_, h, by simp⟩
theorem hasW_not {f : Nat} {L : Ws} (h : hasW f L = false) {a : Nat} : (f, a) ∉ L := fun hm => by
  rw [hasW_iff.2 ⟨a, hm⟩] at h; cases h
theorem ins_mem {f a : Nat} {p : Nat × Nat} : ∀ {L : Ws}, p ∈ ins f a L ↔ p = (f, a) ∨ p ∈ L
  | [] => by simp [ins]
  | q :: r => by
    unfold ins
    split
    · rw [List.mem_cons, List.mem_cons, ins_mem (L := r)]
      constructor <;> rintro (h | h | h) <;> simp [h]
    · simp
theorem ins_length (f a : Nat) : ∀ L : Ws, (ins f a L).length = L.length + 1
  | [] => rfl
  | q :: r => by
    unfold ins
    split
    · simp [ins_length f a r]
    · simp
theorem up_ins {f a : Nat} : ∀ {L : Ws}, Up L → hasW f L = false → Up (ins f a L)
  | [], _, _ => by simp [ins, Up]
  | q :: r, h, hn => by
    obtain ⟨h1, h2⟩ := List.pairwise_cons.1 h
    have hn' : (q.1 == f) = false ∧ hasW f r = false := by simpa [hasW, Bool.or_eq_false_iff] using hn
    have hq : q.1 ≠ f := by simpa using hn'.1
    unfold ins
    split
    · rename_i hlt
      refine List.pairwise_cons.2 ⟨fun p hp => ?_, up_ins h2 hn'.2⟩
      rcases ins_mem.1 hp with rfl | hp
      · exact hlt
      · exact h1 p hp
    · rename_i hlt
      refine List.pairwise_cons.2 ⟨fun p hp => ?_, h⟩
      show f < p.1
      rcases List.mem_cons.1 hp with rfl | hp
      · omega
      · have := h1 p hp; omega
theorem up_filter {L : Ws} (h : Up L) (p : Nat × Nat → Bool) : Up (L.filter p) := List.Pairwise.filter p h
theorem tl_up {L : Ws} (h : Up L) (last : Int) : (tl last L).Pairwise (· < ·) := List.pairwise_map.2 (up_filter h _)
theorem up_apart {L : Ws} (h : Up L) {f a b : Nat} (h1 : (f, a) ∈ L) (h2 : (f, b) ∈ L) : a = b := by
  induction L with
  | nil => cases h1
  | cons q r ih =>
    obtain ⟨k1, k2⟩ := List.pairwise_cons.1 h
    rcases List.mem_cons.1 h1 with e1 | h1
    · rcases List.mem_cons.1 h2 with e2 | h2
      · rw [← e1] at e2; cases e2; rfl
      · have := k1 _ h2; rw [← e1] at this; simp at this
    · rcases List.mem_cons.1 h2 with e2 | h2
      · have := k1 _ h1; rw [← e2] at this; simp at this
      · exact ih k2 h1 h2

/-! ### A map that reads as what waits -/
abbrev ent (p : Nat × Nat) : Lit × DataW Unit := (.int .i64 p.1, .lit (.int .i64 p.2))
def Dm (L : Ws) : DataW Unit := .map (L.map ent)

theorem has_Dm (f : Nat) (L : Ws) : Maps.has (Dm L) (.int .i64 f) = hasW f L := by
  rw [Dm, has_eq, List.any_map]
  unfold hasW
  congr 1
  funext p
  simp only [Function.comp, Lit.sameKey]
  by_cases h : p.1 = f
  · simp [h]
  · have : ¬ ((p.1 : Int) = f) := by omega
    simp [h, this]
theorem has_int {k : Int} {L : Ws} (h : Maps.has (Dm L) (.int .i64 k) = true) : ∃ f : Nat, k = f ∧ hasW f L = true := by
  rw [Dm, has_eq, List.any_eq_true] at h
  obtain ⟨x, hx, hs⟩ := h
  obtain ⟨p, hp, rfl⟩ := List.mem_map.1 hx
  simp only [Lit.sameKey, decide_eq_true_eq] at hs
  exact ⟨p.1, hs.2.symm, hasW_iff.2 ⟨p.2, hp⟩⟩
theorem size_Dm (L : Ws) : Maps.size (Dm L) = L.length := by rw [Dm, size_eq, List.length_map]
theorem insert_Dm (f a : Nat) : ∀ L : Ws, hasW f L = false → DataW.insert (ent (f, a)) (L.map ent) = (ins f a L).map ent
  | [], _ => rfl
  | q :: r, hn => by
    have hn' : (q.1 == f) = false ∧ hasW f r = false := by simpa [hasW, Bool.or_eq_false_iff] using hn
    have hq : q.1 ≠ f := by simpa using hn'.1
    unfold ins
    by_cases hlt : q.1 < f
    · rw [if_pos hlt, List.map_cons, List.map_cons]
      unfold DataW.insert
      have : ¬ ((f : Int) < q.1) := by omega
      simp only [ent, Lit.before, decide_eq_true_eq, this, if_false]
      rw [← insert_Dm f a r hn'.2]
    · rw [if_neg hlt, List.map_cons]
      unfold DataW.insert
      have : (f : Int) < q.1 := by omega
      simp only [ent, Lit.before, decide_eq_true_eq, this, if_true, List.map_cons]
theorem keep_Dm {f : Nat} {L : Ws} : (L.map ent).filter (fun p => !p.1.sameKey (.int .i64 f)) = (L.filter fun p => p.1 != f).map ent := by
  rw [List.filter_map]
  congr 1
  refine List.filter_congr fun p _ => ?_
  simp only [Function.comp, Lit.sameKey]
  by_cases h : p.1 = f
  · simp [h]
  · have : ¬ ((p.1 : Int) = f) := by omega
    simp [h, this]
theorem keep_all {f : Nat} {L : Ws} (h : hasW f L = false) : (L.filter fun p => p.1 != f) = L := by
  refine List.filter_eq_self.2 fun p hp => ?_
  have : p.1 ≠ f := fun e => hasW_not h (a := p.2) (by rw [← e]; exact hp)
  simpa using this
theorem put_Dm {f a : Nat} {L : Ws} (h : hasW f L = false) : (Dm L).put (.int .i64 f) (.lit (.int .i64 a)) = Dm (ins f a L) := by
  show DataW.map (DataW.insert (ent (f, a)) ((L.map ent).filter fun p => !p.1.sameKey (.int .i64 f))) = _
  rw [keep_Dm, keep_all h, insert_Dm f a L h]
  rfl
theorem del_Dm (f : Nat) (L : Ws) : (Dm L).del (.int .i64 f) = Dm (L.filter fun p => p.1 != f) := by
  show DataW.map ((L.map ent).filter fun p => !p.1.sameKey (.int .i64 f)) = _
  rw [keep_Dm]
  rfl
theorem at_Dm {L : Ws} {f : Nat} {c : Int} (h : hasW f L = true) (hat : ∀ zd, (Dm L).atKey (.int .i64 f) zd = .lit (.int .i64 c)) : ∃ a : Nat, c = a ∧ (f, a) ∈ L := by
  have := hat .nil
  obtain ⟨a, ha⟩ := hasW_iff.1 h
  unfold Dm DataW.atKey at this
  simp only at this
  cases hf : (L.map ent).find? (fun p => p.1.sameKey (.int .i64 f)) with
  | none =>
    have := List.find?_eq_none.1 hf (ent (f, a)) (List.mem_map.2 ⟨_, ha, rfl⟩)
    simp [Lit.sameKey] at this
  | some q =>
    rw [hf] at this
    obtain ⟨p, hp, rfl⟩ := List.mem_map.1 (List.mem_of_find?_eq_some hf)
    have hs := List.find?_some hf
    simp only [Lit.sameKey, decide_eq_true_eq] at hs
    simp only [DataW.lit.injEq, Lit.int.injEq, true_and] at this
    refine ⟨p.2, this.symm, ?_⟩
    have : p.1 = f := by omega
    rw [← this]
    exact hp
/-- The number of entries that the word 'ownsMap' bears is how many wait. -/
theorem owns_len {P : Program} {k : TypeId} {R : Value → Option (DataW Unit × List MemPlace)} {w : World} {b n : Nat} {L : Ws} (h : w.ownsMap P k R b n (Dm L)) : w.ownsMap P k R b L.length (Dm L) := by
  obtain ⟨es, clock, hb, F, _, hD⟩ := h
  refine ⟨es, clock, hb, F, ?_, hD⟩
  have h1 : Maps.size (Dm L) = ((es.toList.map (Go.WideElems.rg P k R)).foldr DataW.insert []).length := by rw [hD]; rfl
  rw [size_Dm, length_sorted] at h1
  simp at h1
  omega

/-! ### The keys that have come, in whatever order -/
/-- A key is on the list just where it waits since long enough and is no longer to come; no key twice. -/
def Got (L : Ws) (last : Int) (left : Lit → Bool) (ss : List Int) : Prop :=
  ss.Nodup ∧ ∀ x, x ∈ ss ↔ ∃ f : Nat, x = f ∧ f ∈ tl last L ∧ left (.int .i64 f) = false
theorem tl_mem {L : Ws} {last : Int} {f : Nat} : f ∈ tl last L ↔ ∃ a : Nat, (f, a) ∈ L ∧ (a : Int) ≤ last := by
  unfold tl
  rw [List.mem_map]
  constructor
  · rintro ⟨p, hp, rfl⟩
    obtain ⟨h1, h2⟩ := List.mem_filter.1 hp
    exact ⟨p.2, h1, by simpa using h2⟩
  · rintro ⟨a, h1, h2⟩
    exact ⟨(f, a), List.mem_filter.2 ⟨h1, by simpa using h2⟩, rfl⟩
theorem Got.start (L : Ws) (last : Int) : Got L last (Maps.has (Dm L)) [] := by
  refine ⟨List.nodup_nil, fun x => ⟨fun h => (by cases h), ?_⟩⟩
  rintro ⟨f, _, hf, hl⟩
  obtain ⟨a, ha, _⟩ := tl_mem.1 hf
  rw [has_Dm, hasW_iff.2 ⟨a, ha⟩] at hl
  cases hl
theorem same_int {f g : Nat} : (Lit.int IntKind.i64 f).sameKey (.int .i64 g) = (f == g) := by
  simp only [Lit.sameKey]
  by_cases h : f = g
  · simp [h]
  · have : ¬ ((f : Int) = g) := by omega
    simp [h, this]
theorem Got.yes {L : Ws} {last : Int} {left : Lit → Bool} {ss : List Int} (h : Got L last left ss) {f a : Nat} (hl : left (.int .i64 f) = true) (hm : (f, a) ∈ L) (ha : (a : Int) ≤ last) :
    Got L last (fun z => left z && !z.sameKey (.int .i64 f)) (ss ++ [(f : Int)]) := by
  have hnew : (f : Int) ∉ ss := fun hx => by
    obtain ⟨g, hg, _, hlg⟩ := (h.2 _).1 hx
    obtain rfl : f = g := by omega
    rw [hl] at hlg; cases hlg
  refine ⟨List.nodup_append.2 ⟨h.1, by simp, fun x hx y hy => by simp at hy; subst hy; exact fun e => hnew (e ▸ hx)⟩, fun x => ?_⟩
  rw [List.mem_append, h.2 x]
  constructor
  · rintro (⟨g, rfl, h1, h2⟩ | hx)
    · exact ⟨g, rfl, h1, by show (_ && !_) = _; rw [h2]; rfl⟩
    · obtain rfl : x = f := by simpa using hx
      exact ⟨f, rfl, tl_mem.2 ⟨a, hm, ha⟩, by show (_ && !_) = _; rw [same_int]; simp⟩
  · rintro ⟨g, rfl, h1, h2⟩
    by_cases e : g = f
    · subst e; right; simp
    · left
      refine ⟨g, rfl, h1, ?_⟩
      have h2 : (left (.int .i64 g) && !(Lit.int IntKind.i64 g).sameKey (.int .i64 f)) = false := h2
      rw [same_int] at h2
      simpa [e] using h2
theorem Got.no {L : Ws} {last : Int} {left : Lit → Bool} {ss : List Int} (hU : Up L) (h : Got L last left ss) {f a : Nat} (hm : (f, a) ∈ L) (ha : ¬ (a : Int) ≤ last) :
    Got L last (fun z => left z && !z.sameKey (.int .i64 f)) ss := by
  refine ⟨h.1, fun x => ?_⟩
  rw [h.2 x]
  constructor
  · rintro ⟨g, rfl, h1, h2⟩
    exact ⟨g, rfl, h1, by show (_ && !_) = _; rw [h2]; rfl⟩
  · rintro ⟨g, rfl, h1, h2⟩
    refine ⟨g, rfl, h1, ?_⟩
    have h2 : (left (.int .i64 g) && !(Lit.int IntKind.i64 g).sameKey (.int .i64 f)) = false := h2
    rw [same_int] at h2
    have : g ≠ f := by
      rintro rfl
      obtain ⟨b, hb, hle⟩ := tl_mem.1 h1
      rw [up_apart hU hb hm] at hle
      exact ha hle
    simpa [this] using h2
/-- What was collected, sorted. -/
theorem Got.sorted {L : Ws} {last : Int} {left : Lit → Bool} {ss : List Int} (hU : Up L) (h : Got L last left ss) (hl : ∀ kl, left kl = false) : ss.mergeSort (fun x y => decide (x ≤ y)) = (tl last L).map (fun f => ((f : Nat) : Int)) := by
  have hup := tl_up hU last
  have hs : ((tl last L).map (fun f => ((f : Nat) : Int))).Pairwise (fun x y => x < y) := List.pairwise_map.2 (hup.imp (fun {x y} h => by omega))
  have hnd : ((tl last L).map (fun f => ((f : Nat) : Int))).Nodup := hs.imp (fun {x y} h => by omega)
  have hp : ss.Perm ((tl last L).map (fun f => ((f : Nat) : Int))) := (List.perm_ext_iff_of_nodup h.1 hnd).2 fun x => by
    rw [h.2 x, List.mem_map]
    constructor
    · rintro ⟨f, rfl, hf, _⟩; exact ⟨f, hf, rfl⟩
    · rintro ⟨f, hf, rfl⟩; exact ⟨f, rfl, hf, hl _⟩
  have tr : ∀ a b c : Int, decide (a ≤ b) = true → decide (b ≤ c) = true → decide (a ≤ c) = true := fun a b c h1 h2 => by simp only [decide_eq_true_eq] at *; omega
  have to : ∀ a b : Int, (decide (a ≤ b) || decide (b ≤ a)) = true := fun a b => by simp only [Bool.or_eq_true, decide_eq_true_eq]; omega
  refine List.Perm.eq_of_pairwise (le := fun a b => decide (a ≤ b) = true) (fun a b _ _ h1 h2 => ?_) (List.pairwise_mergeSort tr to ss) (hs.imp (fun {x y} h => by simp only [decide_eq_true_eq]; omega)) ((List.mergeSort_perm ss _).trans hp)
  simp only [decide_eq_true_eq] at h1 h2
  omega
/-! ### Striking a list of frames -/
def strike (l : List Nat) (L : Ws) : Ws := L.filter fun p => !l.contains p.1
theorem strike_nil (L : Ws) : strike [] L = L := List.filter_eq_self.2 fun _ _ => rfl
theorem strike_snoc (l : List Nat) (f : Nat) (L : Ws) : (strike l L).filter (fun p => p.1 != f) = strike (l ++ [f]) L := by
  unfold strike
  rw [List.filter_filter]
  refine List.filter_congr fun p _ => ?_
  by_cases h : p.1 = f
  · simp [h]
  · by_cases h2 : p.1 ∈ l <;> simp [h, h2]
theorem strike_tl {L : Ws} (hU : Up L) (last : Int) : strike (tl last L) L = lv last L := by
  refine List.filter_congr fun p hp => ?_
  by_cases h : (p.2 : Int) ≤ last
  · have : p.1 ∈ tl last L := tl_mem.2 ⟨p.2, hp, h⟩
    simp [this, h]
  · have : p.1 ∉ tl last L := fun hm => by
      obtain ⟨a, ha, hle⟩ := tl_mem.1 hm
      rw [up_apart hU ha hp] at hle
      exact h hle
    simp [this, h]
end Go.Proofs.Ythiicngnhnglfaa
