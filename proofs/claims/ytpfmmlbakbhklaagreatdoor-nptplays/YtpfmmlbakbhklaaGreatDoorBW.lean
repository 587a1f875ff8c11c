/- New tables, what may be put, and all tables of a guest, of guests' trees. Of no function; no conditions. All tables of a guest are those of its tree, once each. Of no function; no conditions. What any call does to guests' trees, whatever it tells, and the trees of a new world. Of no function; no conditions. -/
import Derived.Test.YtpfmmlbakbhklaaGreatDoorBV
import Derived.Test.YtpfmmlbakbhklaaGreatDoorBR
namespace Go.Proofs.YtpfmmlbakbhklaaGreatDoor
open Go.RowKit
theorem z0_word (n : Nat) (a : Int) : wordAt (z0 n).xs a = 0 := by
  unfold wordAt z0
  split
  · by_cases h : a.toNat < 16 * n
    · simp [List.getD, h]
    · simp [List.getD, h]
  · rfl
theorem inv_z0 {n : Nat} (hn : n ≤ 4096) : Inv (z0 n) (fun _ => none) (-1) := by
  refine ⟨by simp [z0], by simp [z0]; exact hn, O.Rt.zero n, ?_, ?_, ?_, ?_, ?_, ?_, ?_, ?_, ?_⟩
  · intro f t h; cases h
  · intro f t h; cases h
  · intro f g t h; cases h
  · intro f t j h; cases h
  · intro f t j h; cases h
  · intro f t h; cases h
  · intro f t j h; cases h
  · intro f h0 h1 hk
    have : (z0 n).ds.getD f.toNat O.zd = O.zd := by
      unfold z0
      by_cases h : f.toNat < n
      · simp [List.getD, h]
      · simp [List.getD, h]
    rw [this] at hk
    exact absurd hk (by decide)
  · intro f t h; cases h
theorem z0_free (n : Nat) : O.cK (z0 n).ds 0 = n := by
  unfold O.cK z0
  rw [O.wh_count]
  simp only
  rw [List.countP_replicate, if_pos (by rfl)]
theorem nT_zero {ty : Int → Option Kd} {o : Int} (h : ∀ f t, ty f = some t → t.o ≠ o) : ∀ N, nT ty o N = 0
  | 0 => rfl
  | N + 1 => by
    have e : ownT ty o N = false := by
      unfold ownT
      cases hq : ty (N : Int) with
      | none => rfl
      | some t => simpa using h _ t hq
    rw [nT_succ, nT_zero h N, e, if_neg (by decide)]
section
variable {s : Sm} {ty : Int → Option Kd} {x : Int}
theorem Inv.fresh (h : Inv s ty (-1)) {o : Int} (ho : 1 ≤ o ∧ o ≤ 16) (hf : 0 < O.cK s.ds 0) (hno : ∀ f t, ty f = some t → t.o ≠ o) :
    newE s o = 0 ∧ Inv (newS s o none16) (upd ty (newF s o) (some ⟨o, 3, 0⟩)) (-1) ∧ Stp o s ty (newS s o none16) (upd ty (newF s o) (some ⟨o, 3, 0⟩)) ∧ O.cK (newS s o none16).ds 0 + 1 = O.cK s.ds 0 ∧ nT (upd ty (newF s o) (some ⟨o, 3, 0⟩)) o s.ds.length = 1 ∧
    (∀ o' pg q, o' ≠ o → Vw s ty o' pg q → Vw (newS s o none16) (upd ty (newF s o) (some ⟨o, 3, 0⟩)) o' pg q) ∧ (∀ pg, P.btw pg 0 65535 = true → Vw (newS s o none16) (upd ty (newF s o) (some ⟨o, 3, 0⟩)) o pg (0, 0)) ∧ (∀ i, 0 ≤ i → i < 16 → pl (newS s o none16).xs (newF s o) i = P.zd) ∧ ty (newF s o) = none := by
  obtain ⟨n1, n2, n3, n4, n5⟩ := free_new h.rt hf o ho
  have hS : newS s o none16 = ⟨laidK s.xs (newF s o) none16 16, s.ds.set (newF s o).toNat ⟨3, o, 0, 0⟩⟩ := by
    unfold newS
    rw [if_pos n1, n5]
  rw [hS]
  refine ⟨n1, ?_⟩
  clear hS n1 n5
  generalize newF s o = n at *
  have hnn : n.toNat < s.ds.length := by omega
  have hnone : ty n = none := by
    cases hq : ty n with
    | none => rfl
    | some t' =>
      have := (h.tin n t' hq).2.2.1
      omega
  have hlen := h.len
  have htop := h.top
  have hp : ∀ f i, 0 ≤ i → i < 16 → pl (laidK s.xs n none16 16) f i = if f = n then P.zd else pl s.xs f i := fun f i a b => by
    rw [laidK_pl ⟨n2, by omega⟩ (by omega) (ent := none16) (fun i _ => rt_zd') 16 (Nat.le_refl _) f i a b]
    by_cases e : f = n
    · rw [if_pos ⟨e, by omega⟩, if_pos e]; rfl
    · rw [if_neg (by simp [e]), if_neg e]
  have hno' : ∀ {f : Int} {t' : Kd}, ty f = some t' → f ≠ n := fun {f t'} hf e => by rw [e, hnone] at hf; cases hf
  have hun : ∀ f t', ty f = some t' → upd ty n (some ⟨o, 3, 0⟩) f = some t' := fun f t' hf => by
    unfold upd
    rw [if_neg (hno' hf)]
    exact hf
  have htk : ∀ f t', upd ty n (some ⟨o, 3, 0⟩) f = some t' → (f = n ∧ t' = ⟨o, 3, 0⟩) ∨ (f ≠ n ∧ ty f = some t') := fun f t' hf => by
    unfold upd at hf
    split at hf
    · rename_i e
      injection hf with hf
      exact .inl ⟨e, hf.symm⟩
    · rename_i e
      exact .inr ⟨e, hf⟩
  refine ⟨⟨?_, ?_, ?_, ?_, ?_, ?_, ?_, ?_, ?_, ?_, ?_, ?_⟩, ⟨by simp, ?_, ?_, ?_, ?_⟩, cK_take hnn _ n4 (by simp), ?_, ?_, ?_, ?_, hnone⟩
  · show (laidK _ _ _ _).length = _
    rw [laidK_len]
    simp
    exact hlen
  · simp
    exact htop
  · exact h.rt.set _ (by
      rw [O.rt_iff]
      simp
      omega)
  · intro f t' hf'
    show _ ∧ _ ∧ ((s.ds.set n.toNat _).getD _ _).k = 3 ∧ ((s.ds.set n.toNat _).getD _ _).r = 0
    rw [getD_set hnn]
    rw [show ((s.ds.set n.toNat ⟨3, o, 0, 0⟩).length : Int) = s.ds.length by simp]
    rcases htk f t' hf' with ⟨e1, -⟩ | ⟨e1, e2⟩
    · rw [e1, if_pos rfl]
      exact ⟨n2, n3, rfl, rfl⟩
    · have := h.tin f t' e2
      rw [if_neg (by omega)]
      exact this
  · intro f t' hf'
    rcases htk f t' hf' with ⟨-, e2⟩ | ⟨-, e2⟩
    · subst e2
      exact ⟨Nat.le_refl _, Int.le_refl _, by simp only; rw [wi_3]; omega⟩
    · exact h.tlv f t' e2
  · intro f f' t' ha hb
    rcases htk f t' ha with ⟨e1, e2⟩ | ⟨e1, e2⟩
    · rcases htk f' t' hb with ⟨e3, e4⟩ | ⟨e3, e4⟩
      · rw [e1, e3]
      · exact absurd (by rw [e2]) (hno f' t' e4)
    · rcases htk f' t' hb with ⟨e3, e4⟩ | ⟨e3, e4⟩
      · exact absurd (by rw [e4]) (hno f t' e2)
      · exact h.inj f f' t' e2 e4
  · intro f t' i hf' a b ht
    simp only at ht ⊢
    rw [hp f i a b] at ht ⊢
    rcases htk f t' hf' with ⟨e1, e2⟩ | ⟨e1, e2⟩
    · rw [if_pos e1, tb_zd] at ht
      cases ht
    · rw [if_neg e1] at ht ⊢
      obtain ⟨c, d⟩ := h.go f t' i e2 a b ht
      exact ⟨c, hun _ _ d⟩
  · intro f t' i hf' a b hpp ht
    simp only at hpp ht ⊢
    rw [hp f i a b] at hpp ht ⊢
    rcases htk f t' hf' with ⟨e1, e2⟩ | ⟨e1, e2⟩
    · rw [if_pos e1] at hpp
      cases hpp
    · rw [if_neg e1] at hpp ht ⊢
      exact h.lf f t' i e2 a b hpp ht
  · intro f t' hf' hlt
    rcases htk f t' hf' with ⟨e1, e2⟩ | ⟨e1, e2⟩
    · subst e2
      simp at hlt
    · obtain ⟨g', a, b, c⟩ := h.led f t' e2 hlt
      refine ⟨g', hun _ _ a, ?_⟩
      simp only
      rw [hp _ _ (by omega) (by omega), if_neg (hno' a)]
      exact ⟨b, c⟩
  · intro f t' i hf' a b
    simp only
    rw [hp f i a b]
    rcases htk f t' hf' with ⟨e1, e2⟩ | ⟨e1, e2⟩
    · rw [if_pos e1, e1]
      exact laidK_word ⟨n2, by omega⟩ (by omega) a b
    · rw [if_neg e1, laidK_other ⟨n2, by omega⟩ (by omega) e1 a b]
      exact h.wds f t' i e2 a b
  · intro f hf0 hf1 hk
    have hk' : ((s.ds.set n.toNat ⟨3, o, 0, 0⟩).getD f.toNat O.zd).k = 3 := hk
    rw [getD_set hnn] at hk'
    by_cases e : f = n
    · exact ⟨_, by unfold upd; rw [if_pos e]⟩
    · rw [if_neg (by omega)] at hk'
      obtain ⟨t', ht'⟩ := h.all f hf0 (by simpa using hf1) hk'
      exact ⟨t', hun _ _ ht'⟩
  · intro f t' hf' hlt hne
    rcases htk f t' hf' with ⟨e1, e2⟩ | ⟨e1, e2⟩
    · subst e2
      simp at hlt
    · obtain ⟨i, c, d, k⟩ := h.full f t' e2 hlt hne
      exact ⟨i, c, d, by simp only; rw [hp _ _ c d, if_neg e1]; exact k⟩
  · intro f t' ht
    constructor
    · intro hf
      rcases htk f t' hf with ⟨-, e2⟩ | ⟨-, e2⟩
      · exact absurd (by rw [e2]) ht
      · exact e2
    · exact hun f t'
  · intro f t' hf ht i a b
    simp only
    rw [hp f i a b, if_neg (hno' hf)]
  · exact fun f t' hf _ => hun f t' hf
  · intro i
    show (_ → ((s.ds.set n.toNat _).getD i O.zd).k = 5) ∧ (_ → ((s.ds.set n.toNat _).getD i O.zd).k = 3 ∨ ((s.ds.set n.toNat _).getD i O.zd).k = 5)
    rw [getD_set hnn]
    by_cases e : i = n.toNat
    · rw [if_pos e, e, n4]
      exact ⟨fun hh => absurd hh (by decide), fun hh => absurd hh (by decide)⟩
    · rw [if_neg e]
      exact ⟨id, .inl⟩
  · rw [nT_upd hnone n2 rfl n3, nT_zero hno]
  · rintro o' pg q hne ⟨f, v, ⟨hon, ht⟩, rfl⟩
    have hd := dg_in pg v
    refine ⟨f, v, ⟨hun _ _ hon, ?_⟩, ?_⟩
    · simp only
      rw [hp _ _ hd.1 hd.2, if_neg (hno' hon)]
      exact ht
    · simp only
      rw [hp _ _ hd.1 hd.2, if_neg (hno' hon)]
  · intro pg hb
    have hd := dg_in pg 3
    refine ⟨n, 3, ⟨root_on (by unfold upd; rw [if_pos rfl]) hb, ?_⟩, ?_⟩
    · simp only
      rw [hp _ _ hd.1 hd.2, if_pos rfl]
      exact tb_zd
    · simp only
      rw [hp _ _ hd.1 hd.2, if_pos rfl]
      rfl
  · intro i a b
    simp only
    rw [hp _ _ a b, if_pos rfl]
theorem putE_in {root pg : Int} {lo : Nat} {e : P.En} (h : putE s root pg lo e = 0) :
    P.btw pg 0 65535 = true ∧ P.btw e.f 0 4095 = true ∧ P.btw e.r 1 7 = true ∧ e.f % P.sp lo = 0 ∧ (en s.xs pg (endF s.xs pg lo 3 root).1 (endF s.xs pg lo 3 root).2).p = false ∧ (endF s.xs pg lo 3 root).2 ≤ lo + O.cK s.ds 0 := by
  unfold putE at h
  split at h
  · omega
  rename_i h1
  split at h
  · omega
  rename_i h2
  split at h
  · omega
  rename_i h3
  split at h
  · omega
  rename_i h4
  split at h
  · omega
  rename_i h5
  split at h
  · omega
  rename_i h6
  simp only [Bool.not_eq_false] at h1 h2 h3
  simp only [Bool.or_eq_true, bne_iff_ne, ne_eq, not_or, Classical.not_not] at h4
  exact ⟨h1, h2, h3, h4.2, by simpa using h5, by omega⟩
theorem rt_leaf {r f : Int} {l : Bool} (hf : P.btw f 0 4095 = true) (hr : P.btw r 1 7 = true) : P.rt ⟨true, r, l, f⟩ = true ∧ P.tb ⟨true, r, l, f⟩ = false := by
  have h1 := P.btw_yes.1 hr
  have h2 : P.btw r 0 7 = true := P.btw_yes.2 ⟨by omega, by omega⟩
  have h3 : P.rt ⟨true, r, l, f⟩ = true := by
    unfold P.rt
    have : decide (0 < r) = true := by simp; omega
    simp [hf, h2, this]
  refine ⟨h3, ?_⟩
  unfold P.tb
  have : (r == 0) = false := by simp; omega
  simp [this]
theorem Inv.put (h : Inv s ty (-1)) {o root pg r f : Int} {lo : Nat} {l : Bool} (hr : ty root = some ⟨o, 3, 0⟩) (ho : 1 ≤ o ∧ o ≤ 16) (hle : (lo = 0 ∧ l = false) ∨ (lo = 1 ∧ l = true)) (h0 : putE s root pg lo ⟨true, r, l, f⟩ = 0) :
    ∃ ty', Inv (putT s o root pg lo ⟨true, r, l, f⟩) ty' (-1) ∧ Stp o s ty (putT s o root pg lo ⟨true, r, l, f⟩) ty' ∧ O.cK (putT s o root pg lo ⟨true, r, l, f⟩).ds 0 + (endF s.xs pg lo 3 root).2 = lo + O.cK s.ds 0 ∧ nT ty' o s.ds.length + lo = nT ty o s.ds.length + (endF s.xs pg lo 3 root).2 ∧ (∃ f, On ty' o pg f lo) ∧
      ∀ o' pg' q, P.btw pg' 0 65535 = true → Vw s ty o' pg' q → Vw (putT s o root pg lo ⟨true, r, l, f⟩) ty' o' pg' (if Mt o pg lo o' pg' then vE ⟨true, r, l, f⟩ lo pg' else q) := by
  obtain ⟨a1, a2, a3, a4, a5, a6⟩ := putE_in h0
  simp only at a2 a3 a4
  have hon := root_on hr a1
  have hlo : lo ≤ 3 := by omega
  obtain ⟨b1, b2, b3, -⟩ := h.end_on a1 lo 3 root hlo hon
  have hS : putT s o root pg lo ⟨true, r, l, f⟩ = putS o pg lo ⟨true, r, l, f⟩ 3 root s := if_pos h0
  rw [hS]
  rw [en_pl a1 b3 (h.low b1)] at a5
  refine Inv.putting a1 (rt_leaf a2 a3).1 (rt_leaf a2 a3).2 rfl ?_ ho 3 root s ty (-1) h hon hlo (fun f t hf _ _ => h.neg hf) a5 a6
  rcases hle with ⟨e1, e2⟩ | ⟨e1, e2⟩
  · exact .inl ⟨e1, e2⟩
  · refine .inr ⟨e1, e2, ?_⟩
    simp only
    rw [e1, sp_1] at a4
    exact a4
theorem Inv.put_ok (h : Inv s ty (-1)) {o root pg r f : Int} (hr : ty root = some ⟨o, 3, 0⟩) (hb : P.btw pg 0 65535 = true) (hf : P.btw f 0 4095 = true) (h17 : P.btw r 1 7 = true) {q : Int × Int} (hq : Vw s ty o pg q) (hq0 : q.2 = 0) (hc : (fd s root pg).2 ≤ O.cK s.ds 0) : putE s root pg 0 ⟨true, r, false, f⟩ = 0 := by
  have hv := h.vw_uniq hq (h.vw_has hr hb)
  have hn := (h.ed hr hb).1.2
  rw [← h.fdE_pl hr hb] at hn
  have hrt : P.rt (fdE s root pg) = true := by rw [h.fdE_pl hr hb]; exact pl_rt _ _ _
  have hp : (fdE s root pg).p = false := by
    cases hp : (fdE s root pg).p
    · rfl
    · have := tb_no hrt hp hn
      rw [hv] at hq0
      unfold vE at hq0
      rw [hp, if_pos rfl] at hq0
      simp only at hq0
      omega
  have hp' : (en s.xs pg (endF s.xs pg 0 3 root).1 (endF s.xs pg 0 3 root).2).p = false := hp
  have hc' : (endF s.xs pg 0 3 root).2 ≤ O.cK s.ds 0 := hc
  unfold putE
  rw [hb, if_neg (fun e => Bool.noConfusion e), hf, if_neg (fun e => Bool.noConfusion e), h17, if_neg (fun e => Bool.noConfusion e), hp', if_neg, if_neg (fun e => Bool.noConfusion e), if_neg (by omega)]
  rw [sp_0]
  simp
end
end Go.Proofs.YtpfmmlbakbhklaaGreatDoor
namespace Go.Proofs.YtpfmmlbakbhklaaGreatDoor
open Go.RowKit
theorem kids_pl {xs : List Int} {f : Int} {v : Nat} (h : 0 ≤ f ∧ f ≤ 4095) (hx : 16 * f + 16 ≤ xs.length) :
    kids xs (f, v) = ((List.range 16).filter fun i => decide (0 < v) && P.tb (pl xs f (i : Nat))).map fun i => ((pl xs f (i : Nat)).f, v - 1) := by
  unfold kids
  simp only
  rw [cutW_at h hx, List.filter_map, List.map_map]
  rfl
/-- Tables of one level of a guest, each once. -/
structure Lv (ty : Int → Option Kd) (o : Int) (v : Nat) (l : List (Int × Nat)) : Prop where
  on : ∀ z, z ∈ l → z.2 = v ∧ ∃ p, ty z.1 = some ⟨o, v, p⟩
  nd : l.Pairwise fun a b => a.1 ≠ b.1
section
variable {s : Sm} {ty : Int → Option Kd} {x : Int}
theorem Inv.kids_mem (h : Inv s ty x) {f : Int} {t : Kd} (hf : ty f = some t) {z : Int × Nat} : z ∈ kids s.xs (f, t.l) ↔ ∃ j, 0 ≤ j ∧ j < 16 ∧ P.tb (pl s.xs f j) = true ∧ z = ((pl s.xs f j).f, t.l - 1) := by
  have := h.tin f t hf
  have := h.len
  rw [kids_pl (h.low hf) (by omega), List.mem_map]
  constructor
  · rintro ⟨i, hi, rfl⟩
    obtain ⟨a, b⟩ := List.mem_filter.1 hi
    simp only [Bool.and_eq_true] at b
    have := List.mem_range.1 a
    exact ⟨i, by omega, by omega, b.2, rfl⟩
  · rintro ⟨j, h0, h1, ht, rfl⟩
    have hl := (h.go f t j hf h0 h1 ht).1
    refine ⟨j.toNat, List.mem_filter.2 ⟨List.mem_range.2 (by omega), ?_⟩, ?_⟩
    · rw [show ((j.toNat : Nat) : Int) = j by omega]
      simp [hl, ht]
    · rw [show ((j.toNat : Nat) : Int) = j by omega]
theorem Inv.kids_lv (h : Inv s ty x) {o : Int} {v : Nat} {l : List (Int × Nat)} (hl : Lv ty o v l) : Lv ty o (v - 1) (l.flatMap (kids s.xs)) := by
  have one : ∀ y, y ∈ l → ∀ z, z ∈ kids s.xs y → ∃ p j, ty y.1 = some ⟨o, v, p⟩ ∧ 0 ≤ j ∧ j < 16 ∧ z = ((pl s.xs y.1 j).f, v - 1) ∧ ty z.1 = some ⟨o, v - 1, 16 * p + j⟩ := by
    rintro ⟨f, v'⟩ hy z hz
    obtain ⟨rfl, p, hp⟩ := hl.on _ hy
    obtain ⟨j, h0, h1, ht, rfl⟩ := (h.kids_mem hp).1 hz
    exact ⟨p, j, hp, h0, h1, rfl, (h.go f _ j hp h0 h1 ht).2⟩
  refine ⟨fun z hz => ?_, ?_⟩
  · obtain ⟨y, hy, hz⟩ := List.mem_flatMap.1 hz
    obtain ⟨p, j, -, -, -, e, ht⟩ := one y hy z hz
    exact ⟨by rw [e], _, ht⟩
  · rw [List.pairwise_flatMap]
    refine ⟨fun y hy => ?_, ?_⟩
    · obtain ⟨f, v'⟩ := y
      obtain ⟨rfl, p, hp⟩ := hl.on _ hy
      simp only at hp
      have hb := h.tin f _ hp
      have hle := h.len
      rw [kids_pl (h.low hp) (by omega), List.pairwise_map]
      refine (List.pairwise_lt_range (n := 16)).filter _ |>.imp_of_mem ?_
      intro a b ha hb hab e
      simp only at e
      obtain ⟨a1, a2⟩ := List.mem_filter.1 ha
      obtain ⟨b1, b2⟩ := List.mem_filter.1 hb
      simp only [Bool.and_eq_true] at a2 b2
      have := List.mem_range.1 a1
      have := List.mem_range.1 b1
      have g1 := (h.go f _ (a : Nat) hp (by omega) (by omega) a2.2).2
      have g2 := (h.go f _ (b : Nat) hp (by omega) (by omega) b2.2).2
      rw [e, g2] at g1
      injection g1 with g1
      injection g1 with _ _ g1
      omega
    · refine hl.nd.imp_of_mem ?_
      intro a b ha hb hab z hz y hy e
      obtain ⟨p, j, c1, c2, c3, -, c4⟩ := one a ha z hz
      obtain ⟨p', j', d1, d2, d3, -, d4⟩ := one b hb y hy
      rw [e, d4] at c4
      injection c4 with c4
      injection c4 with _ _ c4
      have : p = p' := by omega
      subst this
      exact hab (h.inj _ _ _ c1 d1)
theorem Inv.levs_nd (h : Inv s ty x) {o : Int} : ∀ (k v : Nat) (l : List (Int × Nat)), k ≤ v → Lv ty o v l → (levs s.xs k l).Pairwise (fun a b => a.1 ≠ b.1) ∧ ∀ z, z ∈ levs s.xs k l → z.2 ≤ v ∧ ∃ p, ty z.1 = some ⟨o, z.2, p⟩
  | 0, v, l, _, hl => ⟨hl.nd, fun z hz => by
    obtain ⟨e, p, hp⟩ := hl.on z hz
    exact ⟨Nat.le_of_eq e, p, by rw [e]; exact hp⟩⟩
  | k + 1, v, l, hk, hl => by
    obtain ⟨a, b⟩ := h.levs_nd k (v - 1) _ (by omega) (h.kids_lv hl)
    unfold levs
    refine ⟨List.pairwise_append.2 ⟨hl.nd, a, fun y hy z hz e => ?_⟩, fun z hz => ?_⟩
    · obtain ⟨-, p, hp⟩ := hl.on y hy
      obtain ⟨c, p', hp'⟩ := b z hz
      rw [e, hp'] at hp
      injection hp with hp
      injection hp with _ hp _
      omega
    · rcases List.mem_append.1 hz with hz | hz
      · obtain ⟨e, p, hp⟩ := hl.on z hz
        exact ⟨Nat.le_of_eq e, p, by rw [e]; exact hp⟩
      · obtain ⟨c, d⟩ := b z hz
        exact ⟨by omega, d⟩
theorem root_lv {o root : Int} (hr : ty root = some ⟨o, 3, 0⟩) : Lv ty o 3 [(root, 3)] :=
  ⟨fun z hz => by rw [List.mem_singleton.1 hz]; exact ⟨rfl, 0, hr⟩, List.pairwise_singleton _ _⟩
theorem Inv.gat_nd (h : Inv s ty x) {o root : Int} (hr : ty root = some ⟨o, 3, 0⟩) : (gat s.xs root).Pairwise (fun a b => a.1 ≠ b.1) ∧ ∀ z, z ∈ gat s.xs root → z.2 ≤ 3 ∧ ∃ p, ty z.1 = some ⟨o, z.2, p⟩ :=
  h.levs_nd 3 3 _ (Nat.le_refl _) (root_lv hr)
theorem Inv.gat_all (h : Inv s ty x) {o root : Int} (hr : ty root = some ⟨o, 3, 0⟩) : ∀ (k : Nat) (f : Int) (t : Kd), t.l + k = 3 → ty f = some t → t.o = o → (f, t.l) ∈ gat s.xs root
  | 0, f, t, hk, hf, ho => by
    have h3 : t.l = 3 := by omega
    have hp : t.p = 0 := by
      have := h.tlv f t hf
      rw [h3, wi_3] at this
      omega
    have e : t = ⟨o, 3, 0⟩ := by
      obtain ⟨to, tl, tp⟩ := t
      simp only at ho h3 hp
      rw [ho, h3, hp]
    rw [e] at hf
    rw [h.inj f root _ hf hr, h3, gat_self]
    exact List.mem_cons_self ..
  | k + 1, f, t, hk, hf, ho => by
    obtain ⟨g, a, b, c⟩ := h.led f t hf (by omega)
    have hg := h.gat_all hr k g _ (by simp only; omega) a (by simp only; exact ho)
    rw [gat_self]
    refine List.mem_cons_of_mem _ (List.mem_flatMap.2 ⟨_, hg, ?_⟩)
    refine (h.kids_mem a).2 ⟨t.p % 16, by omega, by omega, b, ?_⟩
    rw [c]
    rfl
end
theorem len_le : ∀ (l m : List Nat), l.Pairwise (· ≠ ·) → (∀ x, x ∈ l → x ∈ m) → l.length ≤ m.length
  | [], _, _, _ => Nat.zero_le _
  | a :: l, m, hn, hs => by
    have ha := hs a (List.mem_cons_self ..)
    have hn' := List.pairwise_cons.1 hn
    have := len_le l (m.erase a) hn'.2 (fun x hx => (List.mem_erase_of_ne (fun e => hn'.1 x hx e.symm)).2 (hs x (List.mem_cons_of_mem _ hx)))
    rw [List.length_erase_of_mem ha] at this
    have := List.length_pos_of_mem ha
    simp only [List.length_cons]
    omega
theorem Inv.gat_count {s : Sm} {ty : Int → Option Kd} {x : Int} (h : Inv s ty x) {o root : Int} (hr : ty root = some ⟨o, 3, 0⟩) : (gat s.xs root).length = nT ty o s.ds.length := by
  obtain ⟨a, b⟩ := h.gat_nd hr
  have hin : ∀ z, z ∈ gat s.xs root → 0 ≤ z.1 ∧ z.1 < s.ds.length := fun z hz => by
    obtain ⟨-, p, hp⟩ := b z hz
    have := h.tin _ _ hp
    omega
  have hn : ((gat s.xs root).map fun z => z.1.toNat).Pairwise (· ≠ ·) := by
    rw [List.pairwise_map]
    refine a.imp_of_mem ?_
    intro z y hz hy hne e
    have := hin z hz
    have := hin y hy
    omega
  have hm : ∀ i, i ∈ (gat s.xs root).map (fun z => z.1.toNat) ↔ i ∈ (List.range s.ds.length).filter (ownT ty o) := by
    intro i
    rw [List.mem_map, List.mem_filter, List.mem_range]
    constructor
    · rintro ⟨z, hz, rfl⟩
      obtain ⟨-, p, hp⟩ := b z hz
      have := hin z hz
      refine ⟨by omega, ?_⟩
      unfold ownT
      rw [show ((z.1.toNat : Nat) : Int) = z.1 by omega, hp]
      simp
    · rintro ⟨hi, ho⟩
      unfold ownT at ho
      cases hq : ty (i : Int) with
      | none => rw [hq] at ho; cases ho
      | some t =>
        rw [hq] at ho
        have e : t.o = o := by simpa using ho
        have h3 := (h.tlv _ t hq).1
        exact ⟨_, h.gat_all hr (3 - t.l) _ t (by omega) hq e, by simp⟩
  have hf : ((List.range s.ds.length).filter (ownT ty o)).Pairwise (· ≠ ·) := (List.pairwise_lt_range.filter _).imp fun h => Nat.ne_of_lt h
  have l1 := len_le _ _ hn fun i hi => (hm i).1 hi
  have l2 := len_le _ _ hf fun i hi => (hm i).2 hi
  unfold nT
  rw [List.countP_eq_length_filter]
  rw [List.length_map] at l1 l2
  omega
end Go.Proofs.YtpfmmlbakbhklaaGreatDoor
namespace Go.Proofs.YtpfmmlbakbhklaaGreatDoor
open Go.RowKit
theorem newE_free {s : Sm} {o : Int} (h : newE s o = 0) : 0 < O.cK s.ds 0 := by
  unfold newE O.kE at h
  cases hf : O.fr s.ds with
  | nil => rw [hf] at h; simp at h
  | cons f q =>
    unfold O.cK
    rw [show O.wh (O.isK 0) s.ds = O.fr s.ds from rfl, hf]
    simp
theorem upd_self (ty : Int → Option Kd) (n : Int) (t : Option Kd) : upd ty n t n = t := if_pos rfl
/-- What a call of one guest keeps: all of the others. -/
structure Any (o : Int) (s : Sm) (ty : Int → Option Kd) (s' : Sm) (ty' : Int → Option Kd) : Prop where
  inv : Inv s' ty' (-1)
  stp : Stp o s ty s' ty'
  oth : ∀ o' pg q, o' ≠ o → P.btw pg 0 65535 = true → Vw s ty o' pg q → Vw s' ty' o' pg q
section
variable {s : Sm} {ty : Int → Option Kd}
theorem Any.refl (h : Inv s ty (-1)) (o : Int) : Any o s ty s ty := ⟨h, Stp.refl .., fun _ _ _ _ _ hv => hv⟩
theorem Inv.any_put (h : Inv s ty (-1)) {o root : Int} (hr : ty root = some ⟨o, 3, 0⟩) (ho : 1 ≤ o ∧ o ≤ 16) (pg r f : Int) {lo : Nat} {l : Bool} (hle : (lo = 0 ∧ l = false) ∨ (lo = 1 ∧ l = true)) : ∃ ty', Any o s ty (putT s o root pg lo ⟨true, r, l, f⟩) ty' := by
  by_cases h0 : putE s root pg lo ⟨true, r, l, f⟩ = 0
  · obtain ⟨ty', a, b, -, -, -, c⟩ := h.put hr ho hle h0
    refine ⟨ty', a, b, fun o' pg' q hne hb hv => ?_⟩
    have := c o' pg' q hb hv
    rw [if_neg (fun hm => hne hm.1)] at this
    exact this
  · rw [putT_err h0]
    exact ⟨ty, .refl h o⟩
theorem unE_in {o root pg : Int} (h : unE s o root pg = 0) : qE s root pg = 0 ∧ ((fdE s root pg).l = true → 0 < O.cK s.ds 0) := by
  unfold unE at h
  by_cases hq : qE s root pg = 0
  · rw [if_pos hq] at h
    refine ⟨hq, fun hl => ?_⟩
    unfold alE at h
    rw [if_pos hl] at h
    exact newE_free h
  · rw [if_neg hq] at h
    exact absurd h hq
theorem qE_btw {root pg : Int} (h : qE s root pg = 0) : P.btw pg 0 65535 = true := by
  unfold qE at h
  cases hb : P.btw pg 0 65535
  · rw [hb, if_pos rfl] at h; omega
  · rfl
theorem Inv.any_un (h : Inv s ty (-1)) {o root : Int} (hr : ty root = some ⟨o, 3, 0⟩) (ho : 1 ≤ o ∧ o ≤ 16) (pg : Int) : ∃ ty', Any o s ty (unS s o root pg) ty' := by
  by_cases h0 : unE s o root pg = 0
  · obtain ⟨hq, hf⟩ := unE_in h0
    obtain ⟨-, ty', a, b, -, -, c⟩ := h.unmap hr (qE_btw hq) ho hq hf
    refine ⟨ty', a, b, fun o' pg' q hne hb hv => ?_⟩
    have := c o' pg' q hb hv
    rw [if_neg (fun hm => hne hm.1)] at this
    exact this
  · rw [unS_err h0]
    exact ⟨ty, .refl h o⟩
theorem prE_in {o root pg r : Int} (h : prE s o root pg r = 0) : qE s root pg = 0 ∧ P.btw r 1 7 = true ∧ ((fdE s root pg).r ≠ r → (fdE s root pg).l = true → 0 < O.cK s.ds 0) := by
  unfold prE at h
  split at h
  · omega
  split at h
  · omega
  rename_i h2
  split at h
  · rename_i hq
    refine ⟨hq, by simpa using h2, fun hne hl => ?_⟩
    rw [if_neg hne] at h
    unfold alE at h
    rw [if_pos hl] at h
    exact newE_free h
  · rename_i hq
    exact absurd h hq
theorem Inv.protect' (h : Inv s ty (-1)) {o root pg r : Int} (hr : ty root = some ⟨o, 3, 0⟩) (ho : 1 ≤ o ∧ o ≤ 16) (h0 : prE s o root pg r = 0) :
    ∃ ty', Inv (prS s o root pg r) ty' (-1) ∧ Stp o s ty (prS s o root pg r) ty' ∧ O.cK s.ds 0 ≤ O.cK (prS s o root pg r).ds 0 + 1 ∧
      ∀ o' pg' q, P.btw pg' 0 65535 = true → Vw s ty o' pg' q → Vw (prS s o root pg r) ty' o' pg' (if o' = o ∧ pg' = pg then (q.1, r) else q) := by
  obtain ⟨hq, h17, hf⟩ := prE_in h0
  have hb := qE_btw hq
  by_cases hs : (fdE s root pg).r = r
  · have hp : (fdE s root pg).p = true := by
      unfold qE at hq
      rw [hb, if_neg (fun e => Bool.noConfusion e)] at hq
      cases hpp : (fdE s root pg).p
      · rw [hpp, if_pos rfl] at hq; omega
      · rfl
    have hS : prS s o root pg r = s := by unfold prS; rw [if_pos h0, if_pos hs]
    rw [hS]
    refine ⟨ty, h, Stp.refl .., by omega, fun o' pg' q hb' hv => ?_⟩
    by_cases hm : o' = o ∧ pg' = pg
    · rw [if_pos hm]
      obtain ⟨rfl, rfl⟩ := hm
      have := h.vw_uniq hv (h.vw_has hr hb)
      have e : q.2 = r := by
        rw [this]
        unfold vE
        rw [hp, if_pos rfl]
        exact hs
      rw [← e]
      exact hv
    · rw [if_neg hm]
      exact hv
  · exact (h.protect hr hb ho h17 hq (hf hs)).2
theorem Inv.any_pr (h : Inv s ty (-1)) {o root : Int} (hr : ty root = some ⟨o, 3, 0⟩) (ho : 1 ≤ o ∧ o ≤ 16) (pg r : Int) : ∃ ty', Any o s ty (prS s o root pg r) ty' := by
  by_cases h0 : prE s o root pg r = 0
  · obtain ⟨ty', a, b, -, c⟩ := h.protect' hr ho h0
    refine ⟨ty', a, b, fun o' pg' q hne hb hv => ?_⟩
    have := c o' pg' q hb hv
    rw [if_neg (fun hm => hne hm.1)] at this
    exact this
  · rw [prS_err h0]
    exact ⟨ty, .refl h o⟩
end
/-- The trees of a new world: two guests, each of a root alone, in which there is nothing. -/
structure Bare (m : Nat) (ty : Int → Option Kd) : Prop where
  inv : Inv (s2 m) ty (-1)
  r0 : ty (newF (z0 (m + 1)) 1) = some ⟨1, 3, 0⟩
  r1 : ty (newF (s1 m) 2) = some ⟨2, 3, 0⟩
  two : newE (s1 m) 2 = 0
  free : O.cK (s2 m).ds 0 + 1 = m
  len : (s2 m).ds.length = m + 1
  no : ∀ o pg, o = 1 ∨ o = 2 → P.btw pg 0 65535 = true → Vw (s2 m) ty o pg (0, 0)
  z0 : ∀ i, 0 ≤ i → i < 16 → pl (s2 m).xs (newF (z0 (m + 1)) 1) i = P.zd
  z1 : ∀ i, 0 ≤ i → i < 16 → pl (s2 m).xs (newF (s1 m) 2) i = P.zd
  n1 : nT ty 1 (m + 1) = 1
  n2 : nT ty 2 (m + 1) = 1
theorem bare_at {m : Nat} (h1 : 1 ≤ m) (hm : m ≤ 4095) : ∃ ty, Bare m ty := by
  have h0 := inv_z0 (n := m + 1) (by omega)
  have hf0 := z0_free (m + 1)
  obtain ⟨a1, a2, a3, a4, a5, a6, a7, a8, a9⟩ := h0.fresh (o := 1) (by decide) (by omega) (fun f t hf => by cases hf)
  obtain ⟨b1, b2, b3, b4, b5, b6, b7, b8, b9⟩ := a2.fresh (o := 2) (by decide) (by have := a4; omega) (fun f t hf ho => by
    have := (a3.oth f t (by omega)).1 hf
    cases this)
  have hl1 : (s1 m).ds.length = m + 1 := by
    show (newS (Go.Proofs.YtpfmmlbakbhklaaGreatDoor.z0 (m + 1)) 1 none16).ds.length = _
    rw [(newS_len _ _).2]
    simp [Go.Proofs.YtpfmmlbakbhklaaGreatDoor.z0]
  have hl0 : (Go.Proofs.YtpfmmlbakbhklaaGreatDoor.z0 (m + 1)).ds.length = m + 1 := by simp [Go.Proofs.YtpfmmlbakbhklaaGreatDoor.z0]
  have hr0 := b3.root (newF (Go.Proofs.YtpfmmlbakbhklaaGreatDoor.z0 (m + 1)) 1) ⟨1, 3, 0⟩ (by unfold upd; rw [if_pos rfl]) rfl
  refine ⟨_, b2, hr0, upd_self _ _ _, b1, by have := a4; have := b4; unfold s2 s1; omega, ?_, ?_, ?_, b8, ?_, ?_⟩
  · unfold s2
    rw [(newS_len _ _).2]
    exact hl1
  · intro o pg ho hb
    rcases ho with rfl | rfl
    · exact b6 1 pg _ (by decide) (a7 pg hb)
    · exact b7 pg hb
  · intro i c d
    exact (b3.pls _ ⟨1, 3, 0⟩ (upd_self _ _ _) (by decide) i c d).trans (a8 i c d)
  · rw [hl0] at a5
    rw [b3.nT_oth (by decide)]
    exact a5
  · have hl1' : (newS (Go.Proofs.YtpfmmlbakbhklaaGreatDoor.z0 (m + 1)) 1 none16).ds.length = m + 1 := hl1
    rw [hl1'] at b5
    exact b5
end Go.Proofs.YtpfmmlbakbhklaaGreatDoor
