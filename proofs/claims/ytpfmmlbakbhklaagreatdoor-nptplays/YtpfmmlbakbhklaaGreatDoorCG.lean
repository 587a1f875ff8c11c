/- The document's answer by the same functions as the program's: where a page's way ends, what Map lays step by step, all tables one below another. Of no function; no conditions but what is written. A guest's tables are dropped: the others' stay as they are. Of no function; no conditions but what is written. A page's way where words that are not on it are laid; a way down to the last level. Of no function; conditions: the tables are trees in words and frames. What Unmap and Protect lay, as the document says it: where the page's way ends behind a split, and which tables are thinned out. Of no function; conditions: the tables are trees in words and frames. -/
import Derived.Test.YtpfmmlbakbhklaaGreatDoorBW
import Derived.Test.YtpfmmlbakbhklaaGreatDoorBN
namespace Go.Proofs.YtpfmmlbakbhklaaGreatDoor
open Go.RowKit
/-- All places of a page's way are there. -/
def WayOk (xs : List Int) (root pg : Int) : Prop := ∀ z, z ∈ wayF xs pg 0 3 root → 0 ≤ P.at' z.1 pg z.2 ∧ P.at' z.1 pg z.2 < xs.length
theorem way_len (xs : List Int) (pg : Int) : ∀ (v : Nat) (fr : Int), (wayF xs pg 0 v fr).length + (endF xs pg 0 v fr).2 = v + 1
  | 0, fr => rfl
  | v + 1, fr => by
    unfold wayF endF
    split
    · have := way_len xs pg v (en xs pg fr (v + 1)).f
      simp only [List.length_cons]
      omega
    · simp only [List.length_cons, List.length_nil]
      omega
theorem end_le (xs : List Int) (pg : Int) (lo : Nat) : ∀ (v : Nat) (fr : Int), (endF xs pg lo v fr).2 ≤ v
  | 0, fr => Nat.le_refl _
  | v + 1, fr => by
    unfold endF
    split
    · have := end_le xs pg lo v (en xs pg fr (v + 1)).f
      omega
    · exact Nat.le_refl _
theorem tb_p {e : P.En} (h : P.tb e = true) : e.p = true := by
  cases hp : e.p
  · rw [tb_np hp] at h; cases h
  · rfl
/-- A way that goes down to a level at most. -/
theorem end_lo (xs : List Int) (pg : Int) (lo : Nat) : ∀ (v : Nat) (fr : Int), lo ≤ v →
    (lo ≤ (endF xs pg 0 v fr).2 ∧ endF xs pg lo v fr = endF xs pg 0 v fr) ∨ ((endF xs pg 0 v fr).2 < lo ∧ (endF xs pg lo v fr).2 = lo ∧ P.tb (en xs pg (endF xs pg lo v fr).1 lo) = true)
  | 0, fr, h => .inl ⟨by unfold endF; omega, by obtain rfl : lo = 0 := by omega
                                                rfl⟩
  | v + 1, fr, h => by
    cases ht : P.tb (en xs pg fr (v + 1))
    · have e0 : endF xs pg 0 (v + 1) fr = (fr, v + 1) := by unfold endF; rw [ht]; simp
      have e1 : endF xs pg lo (v + 1) fr = (fr, v + 1) := by unfold endF; rw [ht]; simp
      rw [e0, e1]
      exact .inl ⟨h, rfl⟩
    · have e0 : endF xs pg 0 (v + 1) fr = endF xs pg 0 v (en xs pg fr (v + 1)).f := by
        conv => lhs; unfold endF
        rw [ht, if_pos (by simp)]
      by_cases hl : lo = v + 1
      · have e1 : endF xs pg lo (v + 1) fr = (fr, v + 1) := by unfold endF; simp [hl]
        rw [e0, e1]
        have := end_le xs pg 0 v (en xs pg fr (v + 1)).f
        exact .inr ⟨by omega, hl.symm, by rw [hl]; exact ht⟩
      · have hlt : lo < v + 1 := by omega
        have e1 : endF xs pg lo (v + 1) fr = endF xs pg lo v (en xs pg fr (v + 1)).f := by
          conv => lhs; unfold endF
          rw [ht, if_pos (by simp [hlt])]
        rw [e0, e1]
        exact end_lo xs pg lo v _ (by omega)
/-- What is to be laid, is to be laid below where the way ends. -/
theorem putS_end (o pg : Int) (lo : Nat) (e : P.En) : ∀ (v : Nat) (fr : Int) (s : Sm), lo ≤ (endF s.xs pg 0 v fr).2 → putS o pg lo e v fr s = putS o pg lo e (endF s.xs pg 0 v fr).2 (endF s.xs pg 0 v fr).1 s
  | 0, fr, s, _ => rfl
  | v + 1, fr, s, h => by
    cases ht : P.tb (en s.xs pg fr (v + 1))
    · have e0 : endF s.xs pg 0 (v + 1) fr = (fr, v + 1) := by unfold endF; rw [ht]; simp
      rw [e0]
    · have e0 : endF s.xs pg 0 (v + 1) fr = endF s.xs pg 0 v (en s.xs pg fr (v + 1)).f := by
        conv => lhs; unfold endF
        rw [ht, if_pos (by simp)]
      have := end_le s.xs pg 0 v (en s.xs pg fr (v + 1)).f
      rw [e0] at h ⊢
      rw [← putS_end o pg lo e v _ s h]
      have hM : mkS s o pg fr (v + 1) = s := by unfold mkS; rw [if_pos (tb_p ht)]
      conv => lhs; unfold putS
      rw [if_neg (by omega), hM, if_pos (by rw [ht]; simp; omega)]
section
variable {s s0 : Sm} {ty : Int → Option Kd} {x : Int}
theorem Inv.way_on (h : Inv s ty x) {o pg root : Int} (hr : ty root = some ⟨o, 3, 0⟩) (hb : P.btw pg 0 65535 = true) : ∀ z, z ∈ wayF s.xs pg 0 3 root → On ty o pg z.1 z.2 := fun z hz => by
  have hu := h.way_up hb 3 root [] (⟨root_on hr hb, rfl⟩ : Up s ty o pg [(root, 3)])
  rw [List.append_nil] at hu
  exact hu.on z (List.mem_reverse.2 hz)
theorem Inv.way_ok (h : Inv s ty x) {o pg root : Int} (hr : ty root = some ⟨o, 3, 0⟩) (hb : P.btw pg 0 65535 = true) : WayOk s.xs root pg := fun z hz => by
  have hon := h.way_on hr hb z hz
  have h3 := (h.tlv _ _ hon).1
  have hd := dg_in pg z.2
  rw [at_dg hb h3 (h.low hon)]
  exact h.wd hon hd.1 hd.2
/-- A put that is under way. -/
structure Pt (o root pg : Int) (lo : Nat) (e : P.En) (s0 s : Sm) : Prop where
  inv : ∃ ty x, Inv s ty x ∧ ty root = some ⟨o, 3, 0⟩ ∧ ∀ f t, ty f = some t → t.l < 3 → f ≠ (fd s root pg).1 → f ≠ x
  eq : putS o pg lo e (fd s root pg).2 (fd s root pg).1 s = putS o pg lo e 3 root s0
  le : lo ≤ (fd s root pg).2
  np : (fdE s root pg).p = false
  fr : (fd s root pg).2 ≤ lo + O.cK s.ds 0
theorem Pt.start (h : Inv s ty (-1)) {o root pg : Int} {lo : Nat} {e : P.En} (hr : ty root = some ⟨o, 3, 0⟩) (h0 : lo ≤ (fd s root pg).2) (h1 : (fdE s root pg).p = false) (h2 : (fd s root pg).2 ≤ lo + O.cK s.ds 0) : Pt o root pg lo e s s :=
  ⟨⟨ty, -1, h, hr, fun _ _ hf _ _ => h.neg hf⟩, (putS_end o pg lo e 3 root s h0).symm, h0, h1, h2⟩
theorem Pt.wok {o root pg : Int} {lo : Nat} {e : P.En} (h : Pt o root pg lo e s0 s) (hb : P.btw pg 0 65535 = true) : WayOk s.xs root pg := by
  obtain ⟨ty, x, hi, hr, -⟩ := h.inv
  exact hi.way_ok hr hb
theorem Pt.end {o root pg : Int} {lo : Nat} {e : P.En} (h : Pt o root pg lo e s0 s) (hl : (fd s root pg).2 = lo) : putS o pg lo e 3 root s0 = lay s (P.at' (fd s root pg).1 pg lo) e := by
  rw [← h.eq, hl]
  cases lo with
  | zero => unfold putS; rw [if_pos rfl]
  | succ lo => unfold putS; rw [if_pos rfl]
theorem Pt.step {o root pg : Int} {lo : Nat} {e : P.En} (h : Pt o root pg lo e s0 s) (hb : P.btw pg 0 65535 = true) (ho : 1 ≤ o ∧ o ≤ 16) (hl : lo < (fd s root pg).2) :
    newE s o = 0 ∧ Pt o root pg lo e s0 (hangS s o (P.at' (fd s root pg).1 pg (fd s root pg).2) none16) ∧ (fd (hangS s o (P.at' (fd s root pg).1 pg (fd s root pg).2) none16) root pg).2 + 1 = (fd s root pg).2 := by
  obtain ⟨ty, x, hi, hr, hx⟩ := h.inv
  have heq := h.eq
  have hfr := h.fr
  have hnp := h.np
  obtain ⟨⟨hon, hnt⟩, h3⟩ := hi.ed hr hb
  rw [hi.fdE_pl hr hb] at hnp
  generalize hfd : fd s root pg = q at *
  obtain ⟨fr, v⟩ := q
  simp only at *
  obtain ⟨v, rfl⟩ : ∃ u, v = u + 1 := ⟨v - 1, by omega⟩
  have hd := dg_in pg (v + 1)
  have hen := en_pl (xs := s.xs) hb h3 (hi.low hon)
  obtain ⟨b1, b2, b3, b4, b5, b6, b7, b8, b9⟩ := hi.hang hon hd.1 hd.2 hnt (by simp) ho (by omega) none16 (fun i _ => ⟨rt_zd', tb_zd, fun hh => by cases hh⟩) (x' := newF s o) (fun f t hf hl _ e => hx f t hf hl e) (.inl rfl)
  simp only at b1 b2 b3 b4 b5 b6 b7 b8 b9
  have hst := hangStp (tn := ⟨o, v + 1 - 1, 16 * (pg / wi (v + 1)) + dg pg (v + 1)⟩) hon b1 b2 b3 b6 b7 rfl b8
  have hM : mkS s o pg fr (v + 1) = hangS s o (16 * fr + dg pg (v + 1)) none16 := by
    unfold mkS
    rw [hen, hnp, if_neg (by decide), at_dg hb h3 (hi.low hon)]
  rw [at_dg hb h3 (hi.low hon)]
  have hen1 : en (hangS s o (16 * fr + dg pg (v + 1)) none16).xs pg fr (v + 1) = ⟨true, 0, false, newF s o⟩ := by
    rw [en_pl hb h3 (hi.low hon), b8 _ _ hd.1 hd.2, if_pos ⟨rfl, rfl⟩]
  have htop := hi.top
  have hrt : P.rt ⟨true, 0, false, newF s o⟩ = true := by simp [P.rt, P.btw]; omega
  have htb : P.tb (en (hangS s o (16 * fr + dg pg (v + 1)) none16).xs pg fr (v + 1)) = true := by rw [hen1]; unfold P.tb; rw [hrt]; rfl
  have hS : putS o pg lo e (v + 1) fr s = putS o pg lo e v (newF s o) (hangS s o (16 * fr + dg pg (v + 1)) none16) := by
    conv => lhs; unfold putS
    rw [hM, if_neg (by omega), if_pos (by rw [htb]; simp; omega), hen1]
  have hon1 : On (upd ty (newF s o) (some ⟨o, v + 1 - 1, 16 * (pg / wi (v + 1)) + dg pg (v + 1)⟩)) o pg (newF s o) v := by
    unfold On upd
    rw [if_pos rfl, down_one (l := v) (by omega)]
    rfl
  have hfrn : fr ≠ newF s o := by
    intro e
    unfold On at hon
    rw [e, b1] at hon
    cases hon
  have hd' := dg_in pg v
  have hnone : pl (hangS s o (16 * fr + dg pg (v + 1)) none16).xs (newF s o) (dg pg v) = P.zd := by
    rw [b8 _ _ hd'.1 hd'.2, if_neg (fun e => hfrn e.1.symm), if_pos rfl]
    rfl
  have hroot := hst.root root _ hr rfl
  have hfd1 := b4.fd_of hroot hb (⟨hon1, by rw [hnone]; exact tb_zd⟩ : Ed _ _ o pg (newF s o) v)
  refine ⟨(free_new hi.rt (by omega) o ho).1, ⟨⟨_, _, b4, hroot, fun f t _ _ e => by rw [hfd1] at e; exact e⟩, ?_, ?_, ?_, ?_⟩, ?_⟩
  · rw [hfd1, ← heq, hS]
  · rw [hfd1]; simp only; omega
  · rw [b4.fdE_pl hroot hb, hfd1, hnone]; rfl
  · rw [hfd1]; simp only; omega
  · rw [hfd1]
end
/-! All tables -/
/-- A frame, and all below it. -/
def und (xs : List Int) : Nat → Int → List Int
  | 0, f => [f]
  | v + 1, f => f :: (kids xs (f, v + 1)).flatMap fun z => und xs v z.1
/-- All places below a frame are there. -/
def UOk (xs : List Int) : Nat → Int → Prop
  | 0, f => 0 ≤ f ∧ f ≤ 4095
  | v + 1, f => (0 ≤ f ∧ f ≤ 4095) ∧ 16 * f + 16 ≤ xs.length ∧ ∀ z, z ∈ kids xs (f, v + 1) → UOk xs v z.1
theorem flat_cons {α β : Type} (g : α → β) (h : α → List β) : ∀ l : List α, (l.flatMap fun a => g a :: h a).Perm (l.map g ++ l.flatMap h)
  | [] => .nil
  | a :: l => by
    have ih := flat_cons g h l
    simp only [List.flatMap_cons, List.map_cons, List.cons_append]
    refine .cons _ ?_
    refine (ih.append_left (h a)).trans ?_
    rw [← List.append_assoc, ← List.append_assoc]
    exact (List.perm_append_comm).append_right _
theorem kids_lev (xs : List Int) (t z : Int × Nat) (h : z ∈ kids xs t) : z.2 = t.2 - 1 := by
  unfold kids at h
  obtain ⟨a, -, rfl⟩ := List.mem_map.1 h
  rfl
theorem levs_und (xs : List Int) : ∀ (k : Nat) (l : List (Int × Nat)), (∀ z, z ∈ l → z.2 = k) → ((levs xs k l).map (·.1)).Perm (l.flatMap fun z => und xs k z.1)
  | 0, l, h => by
    show (l.map (·.1)).Perm _
    have : ∀ l : List (Int × Nat), (l.flatMap fun z => und xs 0 z.1) = l.map (·.1) := fun l => by
      induction l with
      | nil => rfl
      | cons a l ih => rw [List.flatMap_cons, ih]; rfl
    rw [this]
  | k + 1, l, h => by
    show ((l ++ levs xs k (l.flatMap (kids xs))).map (·.1)).Perm _
    rw [List.map_append]
    have ih := levs_und xs k (l.flatMap (kids xs)) (fun z hz => by
      obtain ⟨t, ht, hz⟩ := List.mem_flatMap.1 hz
      rw [kids_lev xs t z hz, h t ht]
      rfl)
    refine (ih.append_left _).trans ?_
    rw [List.flatMap_assoc]
    have e : ∀ l : List (Int × Nat), (∀ z, z ∈ l → z.2 = k + 1) → (l.flatMap fun z => und xs (k + 1) z.1) = l.flatMap fun z => z.1 :: (kids xs z).flatMap fun y => und xs k y.1 := fun l => by
      induction l with
      | nil => intro _; rfl
      | cons a l ih =>
        intro h
        have ha := h a (List.mem_cons_self ..)
        rw [List.flatMap_cons, List.flatMap_cons, ih fun z hz => h z (List.mem_cons_of_mem _ hz)]
        obtain ⟨f, v⟩ := a
        simp only at ha
        subst ha
        rfl
    rw [e l h]
    exact (flat_cons _ _ l).symm
theorem gat_und (xs : List Int) (root : Int) : ((gat xs root).map (·.1)).Perm (und xs 3 root) := by
  have := levs_und xs 3 [(root, 3)] (fun z hz => by rw [List.mem_singleton.1 hz])
  simpa [gat] using this
/-- The frames among the first k, as often as they are told. -/
def cnt (l : List Int) (k : Nat) : List Int := (List.range k).flatMap fun (f : Nat) => l.filter fun y => y == (f : Int)
theorem cnt_succ (l : List Int) (k : Nat) : cnt l (k + 1) = cnt l k ++ l.filter fun y => y == (k : Int) := by
  unfold cnt
  rw [List.range_succ, List.flatMap_append]
  simp
theorem cnt_mem {l : List Int} {k : Nat} {y : Int} : y ∈ cnt l k ↔ y ∈ l ∧ 0 ≤ y ∧ y < k := by
  unfold cnt
  rw [List.mem_flatMap]
  constructor
  · rintro ⟨f, hf, hy⟩
    obtain ⟨a, b⟩ := List.mem_filter.1 hy
    have := List.mem_range.1 hf
    have : y = f := by simpa using b
    exact ⟨a, by omega, by omega⟩
  · rintro ⟨a, b, c⟩
    exact ⟨y.toNat, List.mem_range.2 (by omega), List.mem_filter.2 ⟨a, by simp; omega⟩⟩
theorem cnt_sorted (l : List Int) : ∀ k : Nat, (cnt l k).Pairwise (· ≤ ·)
  | 0 => List.Pairwise.nil
  | k + 1 => by
    rw [cnt_succ, List.pairwise_append]
    refine ⟨cnt_sorted l k, ?_, fun a ha b hb => ?_⟩
    · refine List.pairwise_of_forall_mem_list fun a ha b hb => ?_
      have h1 := (List.mem_filter.1 ha).2
      have h2 := (List.mem_filter.1 hb).2
      simp only [beq_iff_eq] at h1 h2
      omega
    · have h1 := (cnt_mem.1 ha).2.2
      have h2 := (List.mem_filter.1 hb).2
      simp only [beq_iff_eq] at h2
      omega
theorem cnt_count (l : List Int) (a : Int) : ∀ k : Nat, (cnt l k).count a = if 0 ≤ a ∧ a < k then l.count a else 0
  | 0 => by rw [if_neg (by omega)]; rfl
  | k + 1 => by
    rw [cnt_succ, List.count_append, cnt_count l a k]
    by_cases ha : a = k
    · rw [if_neg (by omega), if_pos (by omega), Nat.zero_add, ha, List.count_filter (by simp)]
    · have : (l.filter fun y => y == (k : Int)).count a = 0 := List.count_eq_zero.2 fun hm => by
        have := (List.mem_filter.1 hm).2
        simp only [beq_iff_eq] at this
        exact ha this
      rw [this, Nat.add_zero]
      by_cases hk : 0 ≤ a ∧ a < k
      · rw [if_pos hk, if_pos (by omega)]
      · rw [if_neg hk, if_neg (by omega)]
theorem cnt_perm {l : List Int} {k : Nat} (h : ∀ a, a ∈ l → 0 ≤ a ∧ a < k) : (cnt l k).Perm l := by
  rw [List.perm_iff_count]
  intro a
  rw [cnt_count]
  split
  · rfl
  · rename_i hn
    exact (List.count_eq_zero.2 fun hm => hn (h a hm)).symm
theorem all_cnt {xs : List Int} {root : Int} {N : Nat} (h : ∀ a, a ∈ und xs 3 root → 0 ≤ a ∧ a < N) : cnt (und xs 3 root) N = allL xs root := by
  have h1 : (cnt (und xs 3 root) N).Perm (allL xs root) := (cnt_perm h).trans ((gat_und xs root).symm.trans (List.mergeSort_perm _ _).symm)
  have h2 : (allL xs root).Pairwise (· ≤ ·) := by
    have := List.pairwise_mergeSort (le := fun x y : Int => decide (x ≤ y)) (fun a b c => by simp; omega) (fun a b => by simp; omega) ((gat xs root).map (·.1))
    refine this.imp ?_
    intro a b h
    simpa using h
  exact h1.eq_of_pairwise (fun a b _ _ x y => by omega) (cnt_sorted _ _) h2
section
variable {s : Sm} {ty : Int → Option Kd} {x : Int}
theorem Inv.und_ok (h : Inv s ty x) : ∀ (l : Nat) (f : Int) (t : Kd), ty f = some t → t.l = l → UOk s.xs l f
  | 0, f, t, hf, _ => h.low hf
  | l + 1, f, t, hf, hl => by
    refine ⟨h.low hf, by have := h.wd hf (j := 15) (by omega) (by omega); omega, fun z hz => ?_⟩
    rw [← hl] at hz
    obtain ⟨j, j0, j1, ht, rfl⟩ := (h.kids_mem hf).1 hz
    have := (h.go f t j hf j0 j1 ht).2
    exact h.und_ok l _ _ this (by simp only; omega)
theorem Inv.und_in (h : Inv s ty x) {o root : Int} (hr : ty root = some ⟨o, 3, 0⟩) : ∀ a, a ∈ und s.xs 3 root → 0 ≤ a ∧ a < s.ds.length := fun a ha => by
  obtain ⟨z, hz, rfl⟩ := List.mem_map.1 ((gat_und s.xs root).mem_iff.2 ha)
  obtain ⟨-, p, hp⟩ := (h.gat_nd hr).2 z hz
  have := h.tin _ _ hp
  omega
theorem Inv.all_cnt (h : Inv s ty x) {o root : Int} (hr : ty root = some ⟨o, 3, 0⟩) : cnt (und s.xs 3 root) s.ds.length = allL s.xs root := Go.Proofs.YtpfmmlbakbhklaaGreatDoor.all_cnt (h.und_in hr)
end
end Go.Proofs.YtpfmmlbakbhklaaGreatDoor
namespace Go.Proofs.YtpfmmlbakbhklaaGreatDoor
open Go.RowKit
theorem turnAll_at : ∀ (l : List Int) (L : List O.Ds), O.Rt L → l.Pairwise (· ≠ ·) → (∀ c, c ∈ l → (0 ≤ c ∧ c < L.length) ∧ (L.getD c.toNat O.zd).k = 3 ∧ (L.getD c.toNat O.zd).r = 0) →
    (turnAll L l).length = L.length ∧ O.Rt (turnAll L l) ∧ ∀ i : Nat, ((i : Int) ∈ l → ((turnAll L l).getD i O.zd).k = 5) ∧ ((i : Int) ∉ l → (turnAll L l).getD i O.zd = L.getD i O.zd)
  | [], L, h, _, _ => ⟨rfl, h, fun i => ⟨fun e => (by cases e), fun _ => rfl⟩⟩
  | c :: l, L, h, hp, hc => by
    obtain ⟨c1, c2, c3⟩ := hc c (List.mem_cons_self ..)
    obtain ⟨d, d1, d2, d3⟩ := retired_at h c1 c2 c3
    obtain ⟨p1, p2⟩ := List.pairwise_cons.1 hp
    have hci : c.toNat < L.length := by omega
    obtain ⟨e1, e2, e3⟩ := turnAll_at l (L.set c.toNat d) (h.set _ d2) p2 (fun a ha => by
      obtain ⟨a1, a2, a3⟩ := hc a (List.mem_cons_of_mem _ ha)
      have hne := p1 a ha
      rw [getD_set hci, if_neg (by omega), List.length_set]
      exact ⟨a1, a2, a3⟩)
    have eT : turnAll L (c :: l) = turnAll (L.set c.toNat d) l := by show turnAll (O.tL L c 5 0) l = _; rw [d1]
    rw [eT]
    refine ⟨by rw [e1, List.length_set], e2, fun i => ⟨fun hi => ?_, fun hi => ?_⟩⟩
    · rcases List.mem_cons.1 hi with hic | hil
      · have hni : (i : Int) ∉ l := fun hm => p1 i hm hic.symm
        rw [(e3 i).2 hni, getD_set hci, if_pos (by omega)]
        exact d3
      · exact (e3 i).1 hil
    · have hni : (i : Int) ∉ l := fun hm => hi (List.mem_cons_of_mem _ hm)
      have hne : (i : Int) ≠ c := fun e => hi (by rw [e]; exact List.mem_cons_self ..)
      rw [(e3 i).2 hni, getD_set hci, if_neg (by omega)]
def without (ty : Int → Option Kd) (o : Int) : Int → Option Kd := fun f => match ty f with | some t => if t.o = o then none else some t | none => none
theorem without_some {ty : Int → Option Kd} {o f : Int} {t : Kd} : without ty o f = some t ↔ ty f = some t ∧ t.o ≠ o := by
  unfold without
  cases hf : ty f with
  | none => simp
  | some t' =>
    simp only
    by_cases e : t'.o = o
    · rw [if_pos e]
      constructor
      · intro h; cases h
      · rintro ⟨h1, h2⟩
        injection h1 with h1
        exact absurd (h1 ▸ e) h2
    · rw [if_neg e]
      constructor
      · intro h
        injection h with h
        exact ⟨by rw [h], h ▸ e⟩
      · rintro ⟨h1, -⟩
        exact h1
section
variable {s : Sm} {ty : Int → Option Kd}
theorem Inv.allL_mem (h : Inv s ty (-1)) {o root : Int} (hr : ty root = some ⟨o, 3, 0⟩) (f : Int) : f ∈ allL s.xs root ↔ ∃ t, ty f = some t ∧ t.o = o := by
  unfold allL
  rw [List.mem_mergeSort, List.mem_map]
  constructor
  · rintro ⟨z, hz, rfl⟩
    obtain ⟨-, p, hp⟩ := (h.gat_nd hr).2 z hz
    exact ⟨_, hp, rfl⟩
  · rintro ⟨t, ht, ho⟩
    have := (h.tlv f t ht).1
    exact ⟨_, h.gat_all hr (3 - t.l) f t (by omega) ht ho, rfl⟩
theorem Inv.allL_nd (h : Inv s ty (-1)) {o root : Int} (hr : ty root = some ⟨o, 3, 0⟩) : (allL s.xs root).Pairwise (· ≠ ·) := by
  unfold allL
  have h1 : ((gat s.xs root).map (·.1)).Nodup := by
    rw [List.Nodup, List.pairwise_map]
    exact (h.gat_nd hr).1
  exact (List.mergeSort_perm _ _).symm.nodup h1
/-- A guest's tables are dropped. -/
theorem Inv.drop (h : Inv s ty (-1)) {o root : Int} (hr : ty root = some ⟨o, 3, 0⟩) :
    Inv ⟨s.xs, turnAll s.ds (allL s.xs root)⟩ (without ty o) (-1) ∧ (turnAll s.ds (allL s.xs root)).length = s.ds.length := by
  obtain ⟨e1, e2, e3⟩ := turnAll_at (allL s.xs root) s.ds h.rt (h.allL_nd hr) (fun c hc => by
    obtain ⟨t, ht, -⟩ := (h.allL_mem hr c).1 hc
    obtain ⟨a, b, c, d⟩ := h.tin _ _ ht
    exact ⟨⟨a, b⟩, c, d⟩)
  refine ⟨⟨by simp only; rw [e1]; exact h.len, by simp only; rw [e1]; exact h.top, e2, fun f t hf => ?_, fun f t hf => h.tlv f t (without_some.1 hf).1, fun f g t hf hg => h.inj f g t (without_some.1 hf).1 (without_some.1 hg).1,
    fun f t j hf a b c => ?_, fun f t j hf => h.lf f t j (without_some.1 hf).1, fun f t hf hl => ?_, fun f t j hf => h.wds f t j (without_some.1 hf).1, fun f f0 f1 hk => ?_, fun f t hf => h.full f t (without_some.1 hf).1⟩, e1⟩
  · obtain ⟨hf, ho⟩ := without_some.1 hf
    obtain ⟨a, b, c, d⟩ := h.tin f t hf
    have hn : ((f.toNat : Nat) : Int) ∉ allL s.xs root := fun hm => by
      rw [show ((f.toNat : Nat) : Int) = f by omega] at hm
      obtain ⟨t', ht', ho'⟩ := (h.allL_mem hr f).1 hm
      rw [hf] at ht'
      injection ht' with ht'
      exact ho (ht' ▸ ho')
    simp only
    rw [(e3 _).2 hn, e1]
    exact ⟨a, b, c, d⟩
  · obtain ⟨hf, ho⟩ := without_some.1 hf
    obtain ⟨x1, x2⟩ := h.go f t j hf a b c
    exact ⟨x1, without_some.2 ⟨x2, ho⟩⟩
  · obtain ⟨hf, ho⟩ := without_some.1 hf
    obtain ⟨g, a, b⟩ := h.led f t hf hl
    exact ⟨g, without_some.2 ⟨a, ho⟩, b⟩
  · simp only at f1 hk
    rw [e1] at f1
    by_cases hm : f ∈ allL s.xs root
    · have := (e3 f.toNat).1 (by rw [show ((f.toNat : Nat) : Int) = f by omega]; exact hm)
      omega
    · rw [(e3 f.toNat).2 (by rw [show ((f.toNat : Nat) : Int) = f by omega]; exact hm)] at hk
      obtain ⟨t, ht⟩ := h.all f f0 f1 hk
      exact ⟨t, without_some.2 ⟨ht, fun ho => hm ((h.allL_mem hr f).2 ⟨t, ht, ho⟩)⟩⟩
end
end Go.Proofs.YtpfmmlbakbhklaaGreatDoor
namespace Go.Proofs.YtpfmmlbakbhklaaGreatDoor
open Go.RowKit
theorem way_same {xs xs' : List Int} {pg : Int} {lo : Nat} : ∀ (v : Nat) (fr : Int), (∀ z, z ∈ wayF xs pg lo v fr → wordAt xs' (P.at' z.1 pg z.2) = wordAt xs (P.at' z.1 pg z.2)) → wayF xs' pg lo v fr = wayF xs pg lo v fr
  | 0, fr, _ => rfl
  | v + 1, fr, h => by
    have h0 := h (fr, v + 1) (by unfold wayF; exact List.mem_cons_self ..)
    have he : en xs' pg fr (v + 1) = en xs pg fr (v + 1) := by
      unfold en
      exact congrArg (fun x => P.prD x.toNat) h0
    unfold wayF
    rw [he]
    by_cases hc : (decide (lo < v + 1) && P.tb (en xs pg fr (v + 1))) = true
    · rw [if_pos hc, if_pos hc, way_same v _ (fun z hz => h z (by unfold wayF; rw [if_pos hc]; exact List.mem_cons_of_mem _ hz))]
    · rw [if_neg hc, if_neg hc]
theorem end_way {xs xs' : List Int} {pg : Int} {lo v : Nat} {fr : Int} (h : wayF xs' pg lo v fr = wayF xs pg lo v fr) : endF xs' pg lo v fr = endF xs pg lo v fr := by
  obtain ⟨l, hl⟩ := way_end xs pg lo v fr
  obtain ⟨l', hl'⟩ := way_end xs' pg lo v fr
  rw [hl, hl'] at h
  exact (List.append_inj' h rfl).2 |> fun e => by injection e
/-- A way down to the last level. -/
theorem way4 {xs : List Int} {pg root : Int} (h : (endF xs pg 0 3 root).2 = 0) : ∃ f2 f1 f0, wayF xs pg 0 3 root = [(root, 3), (f2, 2), (f1, 1), (f0, 0)] := by
  cases h3 : P.tb (en xs pg root 3)
  · exfalso
    unfold endF at h
    rw [show (2 : Nat) + 1 = 3 from rfl, h3] at h
    simp at h
  · have e3 : endF xs pg 0 3 root = endF xs pg 0 2 (en xs pg root 3).f := by
      conv => lhs; unfold endF
      rw [show (2 : Nat) + 1 = 3 from rfl, h3]
      simp
    have w3 : wayF xs pg 0 3 root = (root, 3) :: wayF xs pg 0 2 (en xs pg root 3).f := by
      conv => lhs; unfold wayF
      rw [show (2 : Nat) + 1 = 3 from rfl, h3]
      simp
    rw [e3] at h
    rw [w3]
    generalize (en xs pg root 3).f = f2 at *
    cases h2 : P.tb (en xs pg f2 2)
    · exfalso
      unfold endF at h
      rw [show (1 : Nat) + 1 = 2 from rfl, h2] at h
      simp at h
    · have e2 : endF xs pg 0 2 f2 = endF xs pg 0 1 (en xs pg f2 2).f := by
        conv => lhs; unfold endF
        rw [show (1 : Nat) + 1 = 2 from rfl, h2]
        simp
      have w2 : wayF xs pg 0 2 f2 = (f2, 2) :: wayF xs pg 0 1 (en xs pg f2 2).f := by
        conv => lhs; unfold wayF
        rw [show (1 : Nat) + 1 = 2 from rfl, h2]
        simp
      rw [e2] at h
      rw [w2]
      generalize (en xs pg f2 2).f = f1 at *
      cases h1 : P.tb (en xs pg f1 1)
      · exfalso
        unfold endF at h
        rw [show (0 : Nat) + 1 = 1 from rfl, h1] at h
        simp at h
      · have w1 : wayF xs pg 0 1 f1 = (f1, 1) :: wayF xs pg 0 0 (en xs pg f1 1).f := by
          conv => lhs; unfold wayF
          rw [show (0 : Nat) + 1 = 1 from rfl, h1]
          simp
        rw [w1]
        exact ⟨f2, f1, _, rfl⟩
section
variable {s : Sm} {ty : Int → Option Kd} {x : Int}
/-- A new table whose words are laid, and that hangs nowhere yet, is on no way. -/
theorem Inv.way_new (h : Inv s ty x) {o pg root : Int} (hr : ty root = some ⟨o, 3, 0⟩) (hb : P.btw pg 0 65535 = true) {n : Int} (hn : ty n = none) (h0 : 0 ≤ n) (h1 : n < s.ds.length) (ent : Nat → P.En) :
    wayF (laidK s.xs n ent 16) pg 0 3 root = wayF s.xs pg 0 3 root := by
  refine way_same 3 root fun z hz => ?_
  have hon := h.way_on hr hb z hz
  have h3 := (h.tlv _ _ hon).1
  have hd := dg_in pg z.2
  have ht := h.top
  have hl := h.len
  rw [at_dg hb h3 (h.low hon)]
  refine laidK_other ⟨h0, by omega⟩ (by omega) (fun e => ?_) hd.1 hd.2
  unfold On at hon
  rw [e, hn] at hon
  cases hon
theorem WayOk.len {xs xs' : List Int} {root pg : Int} (h : WayOk xs root pg) (hw : wayF xs' pg 0 3 root = wayF xs pg 0 3 root) (hl : xs'.length = xs.length) : WayOk xs' root pg := fun z hz => by
  rw [hw] at hz
  rw [hl]
  exact h z hz
/-- What a new table takes. -/
theorem Inv.free (h : Inv s ty x) {o : Int} (ho : 1 ≤ o ∧ o ≤ 16) (hn : newE s o = 0) : ty (newF s o) = none ∧ 0 ≤ newF s o ∧ newF s o < s.ds.length := by
  obtain ⟨-, a, b, c, -⟩ := free_new h.rt (newE_free hn) o ho
  refine ⟨?_, a, b⟩
  cases hty : ty (newF s o) with
  | none => rfl
  | some t =>
    exfalso
    have hk := (h.tin _ _ hty).2.2.1
    omega
/-- A page that is mapped: where its way ends. -/
theorem Inv.lv (h : Inv s ty x) {o pg root : Int} (hr : ty root = some ⟨o, 3, 0⟩) (hb : P.btw pg 0 65535 = true) (hp : (fdE s root pg).p = true) : (fd s root pg).2 ≤ 1 := by
  rcases h.fd_lf hr hb hp with a | a
  · omega
  · omega
end
end Go.Proofs.YtpfmmlbakbhklaaGreatDoor
namespace Go.Proofs.YtpfmmlbakbhklaaGreatDoor
open Go.RowKit
theorem way_up_same {xs xs' : List Int} {pg : Int} : ∀ (v : Nat) (fr : Int), (∀ z, z ∈ wayF xs pg 0 v fr → 0 < z.2 → wordAt xs' (P.at' z.1 pg z.2) = wordAt xs (P.at' z.1 pg z.2)) → wayF xs' pg 0 v fr = wayF xs pg 0 v fr
  | 0, fr, _ => rfl
  | v + 1, fr, h => by
    have h0 := h (fr, v + 1) (by unfold wayF; exact List.mem_cons_self ..) (Nat.succ_pos v)
    have he : en xs' pg fr (v + 1) = en xs pg fr (v + 1) := by
      unfold en
      exact congrArg (fun x => P.prD x.toNat) h0
    unfold wayF
    rw [he]
    by_cases hc : (decide (0 < v + 1) && P.tb (en xs pg fr (v + 1))) = true
    · rw [if_pos hc, if_pos hc, way_up_same v _ (fun z hz => h z (by unfold wayF; rw [if_pos hc]; exact List.mem_cons_of_mem _ hz))]
    · rw [if_neg hc, if_neg hc]
theorem setW_self {xs : List Int} {a : Int} (h : 0 ≤ a ∧ a < xs.length) : setW xs a (wordAt xs a) = xs := by
  unfold setW wordAt
  rw [if_pos (inB_yes.2 h), if_pos (inB_yes.2 h)]
  have hl : a.toNat < xs.length := by omega
  apply List.ext_getElem
  · simp
  · intro i h1 h2
    rw [List.getElem_set]
    split
    · rename_i e
      subst e
      simp [List.getD, hl]
    · rfl
theorem qE_p {s : Sm} {root pg : Int} (h : qE s root pg = 0) : (fdE s root pg).p = true := (qE_in h).2.2
section
variable {s : Sm} {ty : Int → Option Kd}
theorem hangS_len (s : Sm) (o a : Int) (ent : Nat → P.En) : (hangS s o a ent).xs.length = s.xs.length := by
  unfold hangS
  split
  · unfold lay newS
    rename_i h
    rw [if_pos h]
    simp only
    rw [setW_len, laidK_len]
  · rfl
/-- Where a page's own entry stands, behind a split. -/
structure Al (s : Sm) (o root pg f2 f1 f0 : Int) : Prop where
  way : wayF (alS s o root pg).xs pg 0 3 root = [(root, 3), (f2, 2), (f1, 1), (f0, 0)]
  ok : WayOk (alS s o root pg).xs root pg
  fr : ∀ z, z ∈ [(root, 3), (f2, 2), (f1, 1), (f0, 0)] → 0 ≤ z.1 ∧ z.1 ≤ 4095 ∧ 16 * z.1 + 16 ≤ (alS s o root pg).xs.length
  fd : fd (alS s o root pg) root pg = (f0, 0)
  len : (alS s o root pg).xs.length = s.xs.length
  e : fdE (alS s o root pg) root pg = ⟨true, (fdE s root pg).r, false, qF s root pg⟩
  wd : wordAt (alS s o root pg).xs (P.at' f0 pg ((0 : Nat) : Int)) = P.pk (fdE (alS s o root pg) root pg)
theorem Inv.al (h : Inv s ty (-1)) {o root pg : Int} (hr : ty root = some ⟨o, 3, 0⟩) (ho : 1 ≤ o ∧ o ≤ 16) (hq : qE s root pg = 0) (ha : alE s o root pg = 0) :
    ∃ f2 f1 f0, Al s o root pg f2 f1 f0 ∧ ∃ ty1, Inv (alS s o root pg) ty1 (-1) ∧ ty1 root = some ⟨o, 3, 0⟩ := by
  have hb := qE_btw hq
  have hp := qE_p hq
  have hf : (fdE s root pg).l = true → 0 < O.cK s.ds 0 := fun hl => by
    unfold alE at ha
    rw [hl, if_pos rfl] at ha
    exact newE_free ha
  obtain ⟨-, ty1, a2, a3, a4, a5, a6, a7, -, a8⟩ := h.alone hr hb ho hp hf
  have hr1 := a3.root root _ hr rfl
  obtain ⟨f2, f1, f0, hw⟩ := way4 (show (endF (alS s o root pg).xs pg 0 3 root).2 = 0 from a5)
  obtain ⟨l, hl⟩ := way_end (alS s o root pg).xs pg 0 3 root
  have hfd : fd (alS s o root pg) root pg = (f0, 0) := by
    rw [hw] at hl
    have : ([(root, 3), (f2, 2), (f1, 1)] ++ [(f0, 0)] : List (Int × Nat)) = l ++ [endF (alS s o root pg).xs pg 0 3 root] := hl
    have := (List.append_inj' this rfl).2
    injection this with this
    exact this.symm
  have hon : ∀ z, z ∈ [(root, 3), (f2, 2), (f1, 1), (f0, 0)] → On ty1 o pg z.1 z.2 := fun z hz => a2.way_on hr1 hb z (by rw [hw]; exact hz)
  refine ⟨f2, f1, f0, ⟨hw, a2.way_ok hr1 hb, fun z hz => ?_, hfd, ?_, ?_, ?_⟩, ty1, a2, hr1⟩
  · have h1 := a2.low (hon z hz)
    have h2 := a2.wd (hon z hz) (j := 15) (by omega) (by omega)
    omega
  · unfold alS
    split
    · exact hangS_len _ _ _ _
    · rfl
  · have hv := a2.vw_uniq (a8 o pg _ hb (h.vw_has hr hb)) (a2.vw_has hr1 hb)
    rw [hfd] at hv
    have hqF : qF s root pg = (fdE s root pg).f + pg % P.sp (fd s root pg).2 := if_pos hq
    unfold vE at hv
    rw [hp, a7, if_pos rfl, if_pos rfl] at hv
    injection hv with h1 h2
    rw [← hqF] at h1
    simp only [sp_0] at h1
    generalize fdE (alS s o root pg) root pg = e at *
    obtain ⟨ep, er, el, ef⟩ := e
    simp only at a6 a7 h1 h2
    rw [a6, a7, ← h2, h1]
    have : ef + pg % 1 = ef := by omega
    rw [this]
  · obtain ⟨⟨hx, -⟩, -⟩ := a2.ed hr1 hb
    have hpl := a2.fdE_pl hr1 hb
    rw [hfd] at hx hpl
    have hd := dg_in pg 0
    rw [at_dg hb (by omega) (a2.low hx), a2.wds _ _ _ hx hd.1 hd.2, hpl]
/-- The word is laid 0, and tables that are empty go. -/
theorem un_al {o root pg f2 f1 f0 : Int} (hq : qE s root pg = 0) (ha : alE s o root pg = 0) (A : Al s o root pg f2 f1 f0)
    {ty1 : Int → Option Kd} (h1 : Inv (alS s o root pg) ty1 (-1)) (hr1 : ty1 root = some ⟨o, 3, 0⟩) :
    unE s o root pg = 0 ∧ unF s o root pg = qF s root pg ∧
      unS s o root pg = thinS pg [(f0, 0), (f1, 1), (f2, 2), (root, 3)] ⟨setW (alS s o root pg).xs (P.at' f0 pg ((0 : Nat) : Int)) 0, (alS s o root pg).ds⟩ := by
  have hb := qE_btw hq
  have hE : unE s o root pg = 0 := by unfold unE; rw [if_pos hq, ha]
  have hA : unA s o root pg = ⟨setW (alS s o root pg).xs (P.at' f0 pg ((0 : Nat) : Int)) 0, (alS s o root pg).ds⟩ := by
    unfold unA lay
    rw [A.fd, pk_zd']
  refine ⟨hE, ?_, ?_⟩
  · unfold unF
    rw [if_pos hE, A.e]
  · unfold unS
    rw [if_pos hE, hA]
    have hw : wayF (setW (alS s o root pg).xs (P.at' f0 pg ((0 : Nat) : Int)) 0) pg 0 3 root = [(root, 3), (f2, 2), (f1, 1), (f0, 0)] := by
      rw [way_up_same 3 root, A.way]
      intro z hz hz2
      have hx := h1.way_on hr1 hb (f0, 0) (by rw [A.way]; simp)
      have hzn := h1.way_on hr1 hb z hz
      have h3 := (h1.tlv _ _ hzn).1
      have hd := dg_in pg z.2
      have hd0 := dg_in pg 0
      rw [at_dg hb (by omega) (h1.low hx), at_dg hb h3 (h1.low hzn), word_setW (h1.wd hx hd0.1 hd0.2), if_neg]
      intro e
      have hne : z.1 ≠ f0 := fun e2 => by
        unfold On at hx hzn
        rw [e2, hx] at hzn
        injection hzn with hzn
        have : 0 = z.2 := congrArg Kd.l hzn
        omega
      simp only at e hd0
      omega
    simp only
    rw [hw]
    rfl
/-- Another right's word is laid. -/
theorem pr_al {o root pg f2 f1 f0 r : Int} (hb : P.btw pg 0 65535 = true) (h17 : P.btw r 1 7 = true) (hq : qE s root pg = 0) (ha : alE s o root pg = 0) (A : Al s o root pg f2 f1 f0) :
    prE s o root pg r = 0 ∧ ((fdE s root pg).r ≠ r → prS s o root pg r = lay (alS s o root pg) (P.at' f0 pg ((0 : Nat) : Int)) ⟨true, r, false, qF s root pg⟩) := by
  have hE : prE s o root pg r = 0 := by
    unfold prE
    rw [hb, if_neg (fun e => Bool.noConfusion e), h17, if_neg (fun e => Bool.noConfusion e), if_pos hq, ha]
    split <;> rfl
  refine ⟨hE, fun hne => ?_⟩
  unfold prS
  rw [if_pos hE, if_neg hne]
  unfold prA
  rw [A.fd, A.e]
end
end Go.Proofs.YtpfmmlbakbhklaaGreatDoor
