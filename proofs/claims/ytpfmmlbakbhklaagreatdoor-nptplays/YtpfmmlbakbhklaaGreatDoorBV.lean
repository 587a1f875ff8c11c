/- Guests' tables as trees in words and frames: the types of frames, what stays, and where a page's way ends. Of no function; no conditions. What laying a leaf, hanging a new table, and taking an empty one away do to guests' trees: of words and frames alone. Of no function; no conditions. What thinning out, and putting an entry, do to guests' trees: of words and frames alone. Of no function; no conditions. What Map, Large, Unmap and Protect do to guests' trees: each page is mapped as it was, but those of the call. Of no function; no conditions. What Map, Large, Unmap and Protect do to guests' trees: each page is mapped as it was, but those of the call. Of no function; no conditions. What Map, Large, Unmap and Protect tell, and what they do to each page of each guest. Of no function; no conditions. -/
import Derived.Test.YtpfmmlbakbhklaaGreatDoorBI
namespace Go.Proofs.YtpfmmlbakbhklaaGreatDoor
open Go.RowKit
/-- What a frame is a table of: the owner, the level, what is ahead of its pages' last digits. -/
structure Kd where
  o : Int
  l : Nat
  p : Int
/-- The entry at a place of a frame. -/
def pl (xs : List Int) (f j : Int) : P.En := P.prD (wordAt xs (16 * f + j)).toNat
/-- How many pages a table of a level is for. -/
def wi (l : Nat) : Int := 16 * P.sp l
/-- A page's digit at a level. -/
def dg (pg : Int) (l : Nat) : Int := pg / P.sp l % 16
theorem dg_in (pg : Int) (l : Nat) : 0 ≤ dg pg l ∧ dg pg l < 16 := by unfold dg; omega
theorem sp_0 : P.sp ((0 : Nat) : Int) = 1 := rfl
theorem sp_1 : P.sp ((1 : Nat) : Int) = 16 := rfl
theorem sp_2 : P.sp ((2 : Nat) : Int) = 256 := rfl
theorem sp_3 : P.sp ((3 : Nat) : Int) = 4096 := rfl
theorem wi_0 : wi 0 = 16 := rfl
theorem wi_1 : wi 1 = 256 := rfl
theorem wi_2 : wi 2 = 4096 := rfl
theorem wi_3 : wi 3 = 65536 := rfl
theorem lev4 {l : Nat} (h : l ≤ 3) : l = 0 ∨ l = 1 ∨ l = 2 ∨ l = 3 := by omega
theorem up_one {pg : Int} {l : Nat} (h : l < 3) : pg / wi l / 16 = pg / wi (l + 1) ∧ pg / wi l % 16 = dg pg (l + 1) := by
  unfold dg
  rcases (show l = 0 ∨ l = 1 ∨ l = 2 by omega) with rfl | rfl | rfl
  · rw [wi_0, wi_1, sp_1]; omega
  · rw [wi_1, wi_2, sp_2]; omega
  · rw [wi_2, wi_3, sp_3]; omega
theorem down_one {pg : Int} {l : Nat} (h : l < 3) : pg / wi l = 16 * (pg / wi (l + 1)) + dg pg (l + 1) := by
  have := up_one (pg := pg) h
  omega
theorem prD_right (x : Nat) : P.rt (P.prD x) = true := by
  unfold P.prD
  split
  · rename_i h; exact prY_rt h
  · rfl
theorem prD_wd {e : P.En} (h : P.rt e = true) : P.prD (P.wd e).toNat = e := by
  have hi := P.rt_in h
  obtain ⟨p, r, l, f⟩ := e
  simp only at hi
  obtain ⟨r, rfl⟩ := Int.eq_ofNat_of_zero_le hi.1
  obtain ⟨f, rfl⟩ := Int.eq_ofNat_of_zero_le hi.2.2.1
  have hr : P.rd (P.wd ⟨p, r, l, f⟩).toNat = ⟨p, r, l, f⟩ := by
    have hx : (P.wd ⟨p, r, l, f⟩).toNat = P.bI p + 2 * r + 16 * P.bI l + 4096 * f := by unfold P.wd; simp only; omega
    rw [hx]
    have h1 : (P.bI p + 2 * r + 16 * P.bI l + 4096 * f) % 2 = P.bI p := by have := P.bI_lt p; omega
    have h2 : (P.bI p + 2 * r + 16 * P.bI l + 4096 * f) / 2 % 8 = r := by have := P.bI_lt p; omega
    have h3 : (P.bI p + 2 * r + 16 * P.bI l + 4096 * f) / 16 % 2 = P.bI l := by have := P.bI_lt p; have := P.bI_lt l; omega
    have h4 : (P.bI p + 2 * r + 16 * P.bI l + 4096 * f) / 4096 % 4096 = f := by have := P.bI_lt p; have := P.bI_lt l; omega
    unfold P.rd
    rw [h1, h2, h3, h4]
    cases p <;> cases l <;> rfl
  have hy : P.prY (P.wd ⟨p, r, l, f⟩).toNat = true := by
    unfold P.prY
    rw [hr, h]
    have : 0 ≤ P.wd ⟨p, r, l, f⟩ := by unfold P.wd; simp only; omega
    simp
    omega
  unfold P.prD
  rw [if_pos hy, hr]
theorem prD_pk {e : P.En} (h : P.rt e = true) : P.prD (P.pk e).toNat = e := by unfold P.pk; rw [if_pos h]; exact prD_wd h
theorem pl_rt (xs : List Int) (f j : Int) : P.rt (pl xs f j) = true := prD_right _
theorem en_pl {xs : List Int} {pg fr : Int} {v : Nat} (h : P.btw pg 0 65535 = true) (hv : v ≤ 3) (hf : 0 ≤ fr ∧ fr ≤ 4095) : en xs pg fr v = pl xs fr (dg pg v) := by
  unfold en pl
  have h1 : P.ix pg v = dg pg v := P.ix_yes h (P.btw_yes.2 ⟨by omega, by omega⟩)
  have h2 : P.at' fr pg v = 16 * fr + dg pg v := by
    unfold P.at'
    have := dg_in pg v
    rw [h1, if_pos]
    simp only [Bool.and_eq_true, decide_eq_true_eq]
    exact ⟨this.1, P.btw_yes.2 hf⟩
  rw [h2]
theorem at_dg {pg fr : Int} {v : Nat} (h : P.btw pg 0 65535 = true) (hv : v ≤ 3) (hf : 0 ≤ fr ∧ fr ≤ 4095) : P.at' fr pg v = 16 * fr + dg pg v := by
  have h1 : P.ix pg v = dg pg v := P.ix_yes h (P.btw_yes.2 ⟨by omega, by omega⟩)
  unfold P.at'
  have := dg_in pg v
  rw [h1, if_pos]
  simp only [Bool.and_eq_true, decide_eq_true_eq]
  exact ⟨this.1, P.btw_yes.2 hf⟩
theorem word_setW {xs : List Int} {a b x : Int} (ha : 0 ≤ a ∧ a < xs.length) : wordAt (setW xs a x) b = if b = a then x else wordAt xs b := by
  unfold wordAt setW
  rw [if_pos (inB_yes.2 ha), List.length_set]
  by_cases hb : b = a
  · subst hb
    rw [if_pos (inB_yes.2 ha), if_pos rfl]
    have : b.toNat < xs.length := by omega
    simp [List.getD, this]
  · rw [if_neg hb]
    split
    · rename_i h
      have h := inB_yes.1 h
      have : a.toNat ≠ b.toNat := by omega
      simp [List.getD, this]
    · rfl
theorem pl_set {xs : List Int} {g j f i : Int} {e : P.En} (hg : 0 ≤ 16 * g + j ∧ 16 * g + j < xs.length) (hj : 0 ≤ j ∧ j < 16) (hi : 0 ≤ i ∧ i < 16) (he : P.rt e = true) :
    pl (setW xs (16 * g + j) (P.pk e)) f i = if f = g ∧ i = j then e else pl xs f i := by
  unfold pl
  rw [word_setW hg]
  by_cases h : f = g ∧ i = j
  · rw [if_pos h, if_pos (by omega), prD_pk he]
  · rw [if_neg h, if_neg (by omega)]
theorem at_k {n : Int} (hn : 0 ≤ n ∧ n ≤ 4095) {k : Nat} (hk : k < 16) : P.at' n (k : Nat) 0 = 16 * n + k := by
  have h := at_dg (pg := (k : Nat)) (fr := n) (v := 0) (P.btw_yes.2 ⟨by omega, by omega⟩) (by omega) hn
  unfold dg at h
  rw [sp_0] at h
  rw [show P.at' n (k : Nat) 0 = P.at' n (k : Nat) ((0 : Nat) : Int) from rfl, h]
  omega
theorem laidK_at {xs : List Int} {n : Int} {ent : Nat → P.En} (hn : 0 ≤ n ∧ n ≤ 4095) (hx : 16 * n + 16 ≤ xs.length) : ∀ (k : Nat), k ≤ 16 → ∀ f i, 0 ≤ i → i < 16 →
    wordAt (laidK xs n ent k) (16 * f + i) = if f = n ∧ i < k then P.pk (ent i.toNat) else wordAt xs (16 * f + i)
  | 0, _, f, i, h0, _ => by
    rw [if_neg (by omega)]
    rfl
  | k + 1, hk, f, i, h0, h1 => by
    have ih := laidK_at (ent := ent) hn hx k (by omega) f i h0 h1
    have hl := laidK_len xs n ent k
    show wordAt (setW (laidK xs n ent k) (P.at' n (k : Nat) 0) (P.pk (ent k))) _ = _
    rw [at_k hn (by omega), word_setW ⟨by omega, by omega⟩, ih]
    by_cases hf : f = n
    · by_cases hik : i = k
      · rw [if_pos (by omega), if_pos ⟨hf, by omega⟩, hik]
        rfl
      · rw [if_neg (by omega)]
        by_cases hlt : i < k
        · rw [if_pos ⟨hf, hlt⟩, if_pos ⟨hf, by omega⟩]
        · rw [if_neg (by omega), if_neg (by omega)]
    · rw [if_neg (by omega), if_neg (by simp [hf]), if_neg (by simp [hf])]
theorem laidK_pl {xs : List Int} {n : Int} {ent : Nat → P.En} (hn : 0 ≤ n ∧ n ≤ 4095) (hx : 16 * n + 16 ≤ xs.length) (he : ∀ i, i < 16 → P.rt (ent i) = true) (k : Nat) (hk : k ≤ 16) (f i : Int) (h0 : 0 ≤ i) (h1 : i < 16) :
    pl (laidK xs n ent k) f i = if f = n ∧ i < k then ent i.toNat else pl xs f i := by
  unfold pl
  rw [laidK_at hn hx k hk f i h0 h1]
  split
  · exact prD_pk (he _ (by omega))
  · rfl
theorem laidK_word {xs : List Int} {n : Int} {ent : Nat → P.En} (hn : 0 ≤ n ∧ n ≤ 4095) (hx : 16 * n + 16 ≤ xs.length) {i : Int} (h0 : 0 ≤ i) (h1 : i < 16) : wordAt (laidK xs n ent 16) (16 * n + i) = P.pk (ent i.toNat) := by
  rw [laidK_at hn hx 16 (Nat.le_refl _) n i h0 h1, if_pos ⟨rfl, h1⟩]
theorem laidK_other {xs : List Int} {n : Int} {ent : Nat → P.En} (hn : 0 ≤ n ∧ n ≤ 4095) (hx : 16 * n + 16 ≤ xs.length) {f i : Int} (hf : f ≠ n) (h0 : 0 ≤ i) (h1 : i < 16) : wordAt (laidK xs n ent 16) (16 * f + i) = wordAt xs (16 * f + i) := by
  rw [laidK_at hn hx 16 (Nat.le_refl _) f i h0 h1, if_neg (by simp [hf])]

/-- The tables of all guests, as trees; x: a frame that may be empty. -/
structure Inv (s : Sm) (ty : Int → Option Kd) (x : Int) : Prop where
  len : s.xs.length = 16 * s.ds.length
  top : s.ds.length ≤ 4096
  rt : O.Rt s.ds
  tin : ∀ f t, ty f = some t → 0 ≤ f ∧ f < s.ds.length ∧ (s.ds.getD f.toNat O.zd).k = 3 ∧ (s.ds.getD f.toNat O.zd).r = 0
  tlv : ∀ f t, ty f = some t → t.l ≤ 3 ∧ 0 ≤ t.p ∧ t.p * wi t.l + wi t.l ≤ 65536
  inj : ∀ f g t, ty f = some t → ty g = some t → f = g
  go : ∀ f t j, ty f = some t → 0 ≤ j → j < 16 → P.tb (pl s.xs f j) = true → 0 < t.l ∧ ty (pl s.xs f j).f = some ⟨t.o, t.l - 1, 16 * t.p + j⟩
  lf : ∀ f t j, ty f = some t → 0 ≤ j → j < 16 → (pl s.xs f j).p = true → P.tb (pl s.xs f j) = false → (t.l = 0 ∧ (pl s.xs f j).l = false) ∨ (t.l = 1 ∧ (pl s.xs f j).l = true ∧ (pl s.xs f j).f % 16 = 0)
  led : ∀ f t, ty f = some t → t.l < 3 → ∃ g, ty g = some ⟨t.o, t.l + 1, t.p / 16⟩ ∧ P.tb (pl s.xs g (t.p % 16)) = true ∧ (pl s.xs g (t.p % 16)).f = f
  wds : ∀ f t j, ty f = some t → 0 ≤ j → j < 16 → wordAt s.xs (16 * f + j) = P.pk (pl s.xs f j)
  all : ∀ f : Int, 0 ≤ f → f < s.ds.length → (s.ds.getD f.toNat O.zd).k = 3 → ∃ t, ty f = some t
  full : ∀ f t, ty f = some t → t.l < 3 → f ≠ x → ∃ j, 0 ≤ j ∧ j < 16 ∧ (pl s.xs f j).p = true
/-- A frame on a page's way. -/
def On (ty : Int → Option Kd) (o pg : Int) (f : Int) (v : Nat) : Prop := ty f = some ⟨o, v, pg / wi v⟩
/-- A page's way ends there. -/
def Ed (s : Sm) (ty : Int → Option Kd) (o pg : Int) (f : Int) (v : Nat) : Prop := On ty o pg f v ∧ P.tb (pl s.xs f (dg pg v)) = false
section
variable {s : Sm} {ty : Int → Option Kd} {x : Int}
theorem Inv.low (h : Inv s ty x) {f : Int} {t : Kd} (ht : ty f = some t) : 0 ≤ f ∧ f ≤ 4095 := by
  have := h.tin f t ht
  have := h.top
  omega
theorem Inv.wd (h : Inv s ty x) {f : Int} {t : Kd} (ht : ty f = some t) {j : Int} (h0 : 0 ≤ j) (h1 : j < 16) : 0 ≤ 16 * f + j ∧ 16 * f + j < s.xs.length := by
  have := h.tin f t ht
  have := h.len
  omega
theorem Inv.step (h : Inv s ty x) {o pg f : Int} {v : Nat} (hf : On ty o pg f (v + 1)) (ht : P.tb (pl s.xs f (dg pg (v + 1))) = true) : On ty o pg (pl s.xs f (dg pg (v + 1))).f v := by
  have hd := dg_in pg (v + 1)
  have h3 := (h.tlv _ _ hf).1
  have := (h.go f _ _ hf hd.1 hd.2 ht).2
  simp only at this h3
  unfold On
  rw [this, down_one (l := v) (by omega)]
  rfl
theorem Inv.climb (h : Inv s ty x) {o pg f : Int} {v : Nat} (hf : On ty o pg f v) : ∀ (k : Nat), v + k + 1 ≤ 3 → ∃ g, On ty o pg g (v + k + 1) ∧ P.tb (pl s.xs g (dg pg (v + k + 1))) = true
  | 0, hk => by
    obtain ⟨g, h1, h2, -⟩ := h.led f _ hf (by simp only; omega)
    obtain ⟨e1, e2⟩ := up_one (pg := pg) (l := v) (by omega)
    simp only at h1 h2
    rw [e1] at h1
    rw [e2] at h2
    exact ⟨g, h1, h2⟩
  | k + 1, hk => by
    obtain ⟨g, h1, -⟩ := h.climb hf k (by omega)
    exact h.climb h1 0 (by omega)
theorem Inv.ed_uniq (h : Inv s ty x) {o pg f f' : Int} {v v' : Nat} (a : Ed s ty o pg f v) (b : Ed s ty o pg f' v') : f = f' ∧ v = v' := by
  have key : ∀ {f f' : Int} {v v' : Nat}, Ed s ty o pg f v → Ed s ty o pg f' v' → ¬ v < v' := by
    intro f f' v v' a b hlt
    have h3 := (h.tlv _ _ b.1).1
    simp only at h3
    obtain ⟨g, h1, h2⟩ := h.climb a.1 (v' - v - 1) (by omega)
    rw [show v + (v' - v - 1) + 1 = v' by omega] at h1 h2
    have := h.inj g f' _ h1 b.1
    rw [this] at h2
    rw [b.2] at h2
    cases h2
  have e : v = v' := by
    have := key a b
    have := key b a
    omega
  subst e
  exact ⟨h.inj _ _ _ a.1 b.1, rfl⟩
theorem Inv.end_on (h : Inv s ty x) {o pg : Int} (hp : P.btw pg 0 65535 = true) (lo : Nat) : ∀ (v : Nat) (fr : Int), lo ≤ v → On ty o pg fr v →
    On ty o pg (endF s.xs pg lo v fr).1 (endF s.xs pg lo v fr).2 ∧ lo ≤ (endF s.xs pg lo v fr).2 ∧ (endF s.xs pg lo v fr).2 ≤ v ∧ (lo < (endF s.xs pg lo v fr).2 → P.tb (pl s.xs (endF s.xs pg lo v fr).1 (dg pg (endF s.xs pg lo v fr).2)) = false)
  | 0, fr, hl, hf => ⟨hf, hl, Nat.le_refl _, fun g => absurd g (by show ¬ lo < 0; omega)⟩
  | v + 1, fr, hl, hf => by
    have h3 := (h.tlv _ _ hf).1
    have he := en_pl (xs := s.xs) hp h3 (h.low hf)
    simp only at h3 he
    unfold endF
    rw [he]
    split
    · rename_i hc
      simp only [Bool.and_eq_true, decide_eq_true_eq] at hc
      obtain ⟨a, b, c, d⟩ := h.end_on hp lo v _ (by omega) (h.step hf hc.2)
      exact ⟨a, b, by omega, d⟩
    · rename_i hc
      simp only [Bool.and_eq_true, decide_eq_true_eq, not_and, Bool.not_eq_true] at hc
      exact ⟨hf, hl, Nat.le_refl _, hc⟩
theorem root_on {o root pg : Int} (hr : ty root = some ⟨o, 3, 0⟩) (hp : P.btw pg 0 65535 = true) : On ty o pg root 3 := by
  unfold On
  rw [hr]
  have := P.btw_yes.1 hp
  rw [wi_3, show pg / 65536 = 0 by omega]
theorem Inv.leaf0 (h : Inv s ty x) {o pg f : Int} (hf : On ty o pg f 0) (j : Int) (h0 : 0 ≤ j) (h1 : j < 16) : P.tb (pl s.xs f j) = false := by
  cases ht : P.tb (pl s.xs f j)
  · rfl
  · exact absurd (h.go f _ j hf h0 h1 ht).1 (by simp)
theorem Inv.ed (h : Inv s ty x) {o pg root : Int} (hr : ty root = some ⟨o, 3, 0⟩) (hp : P.btw pg 0 65535 = true) : Ed s ty o pg (fd s root pg).1 (fd s root pg).2 ∧ (fd s root pg).2 ≤ 3 := by
  obtain ⟨a, b, c, d⟩ := h.end_on hp 0 3 root (by omega) (root_on hr hp)
  refine ⟨⟨a, ?_⟩, c⟩
  by_cases h0 : 0 < (fd s root pg).2
  · exact d h0
  · have e : (fd s root pg).2 = 0 := by omega
    have a' : On ty o pg (fd s root pg).1 0 := by have := a; unfold fd at e; rw [e] at this; exact this
    exact h.leaf0 a' _ (dg_in _ _).1 (dg_in _ _).2
theorem Inv.fdE_pl (h : Inv s ty x) {o pg root : Int} (hr : ty root = some ⟨o, 3, 0⟩) (hp : P.btw pg 0 65535 = true) : fdE s root pg = pl s.xs (fd s root pg).1 (dg pg (fd s root pg).2) := by
  obtain ⟨a, b⟩ := h.ed hr hp
  exact en_pl hp b (h.low a.1)
/-- What a page's entry comes to: the frame and the rights, none: 0 and 0. -/
def vE (e : P.En) (v : Nat) (pg : Int) : Int × Int := if e.p = true then (e.f + pg % P.sp v, e.r) else (0, 0)
/-- What a page is mapped to. -/
def Vw (s : Sm) (ty : Int → Option Kd) (o pg : Int) (q : Int × Int) : Prop := ∃ f v, Ed s ty o pg f v ∧ q = vE (pl s.xs f (dg pg v)) v pg
theorem Inv.vw_uniq (h : Inv s ty x) {o pg : Int} {q r : Int × Int} (a : Vw s ty o pg q) (b : Vw s ty o pg r) : q = r := by
  obtain ⟨f, v, h1, rfl⟩ := a
  obtain ⟨f', v', h2, rfl⟩ := b
  obtain ⟨rfl, rfl⟩ := h.ed_uniq h1 h2
  rfl
theorem Inv.vw_has (h : Inv s ty x) {o pg root : Int} (hr : ty root = some ⟨o, 3, 0⟩) (hp : P.btw pg 0 65535 = true) : Vw s ty o pg (vE (fdE s root pg) (fd s root pg).2 pg) :=
  ⟨_, _, (h.ed hr hp).1, by rw [h.fdE_pl hr hp]⟩
theorem tb_no {e : P.En} (h : P.rt e = true) (hp : e.p = true) (ht : P.tb e = false) : 0 < e.r := rt_pos h hp (.inl ht)
theorem Inv.query (h : Inv s ty x) {o pg root : Int} (hr : ty root = some ⟨o, 3, 0⟩) (hp : P.btw pg 0 65535 = true) {q : Int × Int} (hq : Vw s ty o pg q) :
    qF s root pg = q.1 ∧ qR s root pg = q.2 ∧ qE s root pg = (if q.2 = 0 then 4 else 0) ∧ 0 ≤ q.2 ∧ q.2 ≤ 7 := by
  have e := h.vw_uniq hq (h.vw_has hr hp)
  have hn := (h.ed hr hp).1.2
  rw [← h.fdE_pl hr hp] at hn
  have hrt : P.rt (fdE s root pg) = true := by rw [h.fdE_pl hr hp]; exact pl_rt _ _ _
  have hi := P.rt_in hrt
  subst e
  unfold qF qR qE vE
  rw [hp, if_neg (fun e => Bool.noConfusion e)]
  cases hpp : (fdE s root pg).p
  · simp
  · have hr := tb_no hrt hpp hn
    have hr0 : (fdE s root pg).r ≠ 0 := by omega
    simp [hr0]
    omega
end
end Go.Proofs.YtpfmmlbakbhklaaGreatDoor
namespace Go.Proofs.YtpfmmlbakbhklaaGreatDoor
open Go.RowKit
theorem un_dg {pg : Int} {l : Nat} (h : l ≤ 3) : pg / P.sp l = 16 * (pg / wi l) + dg pg l := by
  unfold dg
  rcases lev4 h with rfl | rfl | rfl | rfl
  · rw [wi_0, sp_0]; omega
  · rw [wi_1, sp_1]; omega
  · rw [wi_2, sp_2]; omega
  · rw [wi_3, sp_3]; omega
/-- A page is under a place of a table. -/
def Und (t : Kd) (j o pg : Int) : Prop := o = t.o ∧ pg / P.sp t.l = 16 * t.p + j
instance (t : Kd) (j o pg : Int) : Decidable (Und t j o pg) := by unfold Und; infer_instance
theorem und_iff {t : Kd} {j o pg : Int} (hl : t.l ≤ 3) (h0 : 0 ≤ j) (h1 : j < 16) : Und t j o pg ↔ t = ⟨o, t.l, pg / wi t.l⟩ ∧ dg pg t.l = j := by
  have e := un_dg (pg := pg) hl
  have hd := dg_in pg t.l
  obtain ⟨to, tl, tp⟩ := t
  unfold Und
  simp only at e hd ⊢
  constructor
  · rintro ⟨rfl, h⟩
    have : tp = pg / wi tl := by omega
    exact ⟨by rw [this], by omega⟩
  · rintro ⟨h, h'⟩
    injection h with a b c
    exact ⟨a.symm, by omega⟩
section
variable {s : Sm} {ty : Int → Option Kd} {x : Int}
theorem Inv.on_und (h : Inv s ty x) {g : Int} {t : Kd} (hg : ty g = some t) {j o pg : Int} (h0 : 0 ≤ j) (h1 : j < 16) {v : Nat} (hf : On ty o pg g v) : (v = t.l ∧ (dg pg v = j ↔ Und t j o pg)) := by
  unfold On at hf
  rw [hg] at hf
  injection hf with hf
  have hl := (h.tlv g t hg).1
  rw [und_iff hl h0 h1]
  refine ⟨by rw [hf], ?_⟩
  subst hf
  simp
theorem Inv.und_on (h : Inv s ty x) {g : Int} {t : Kd} (hg : ty g = some t) {j o pg : Int} (h0 : 0 ≤ j) (h1 : j < 16) (hu : Und t j o pg) : On ty o pg g t.l ∧ dg pg t.l = j := by
  obtain ⟨a, b⟩ := (und_iff (h.tlv g t hg).1 h0 h1).1 hu
  refine ⟨?_, b⟩
  unfold On
  rw [hg, ← a]
/-- A leaf, or nothing, is laid where no table hangs. -/
theorem Inv.leaf (h : Inv s ty x) {g : Int} {t : Kd} (hg : ty g = some t) {j : Int} (h0 : 0 ≤ j) (h1 : j < 16) (hold : P.tb (pl s.xs g j) = false) {e : P.En} (he : P.rt e = true) (hn : P.tb e = false)
    (hl : e.p = true → (t.l = 0 ∧ e.l = false) ∨ (t.l = 1 ∧ e.l = true ∧ e.f % 16 = 0)) {x' : Int} (hx : ∀ f t, ty f = some t → t.l < 3 → f ≠ x' → (f = g → e.p = true) ∧ (f ≠ g → f ≠ x)) :
    Inv (lay s (16 * g + j) e) ty x' ∧ (∀ f i, 0 ≤ i → i < 16 → pl (lay s (16 * g + j) e).xs f i = if f = g ∧ i = j then e else pl s.xs f i) ∧
    ∀ o pg q, P.btw pg 0 65535 = true → Vw s ty o pg q → Vw (lay s (16 * g + j) e) ty o pg (if Und t j o pg then vE e t.l pg else q) := by
  have hw := h.wd hg h0 h1
  have hp : ∀ f i, 0 ≤ i → i < 16 → pl (lay s (16 * g + j) e).xs f i = if f = g ∧ i = j then e else pl s.xs f i := fun f i a b => pl_set hw ⟨h0, h1⟩ ⟨a, b⟩ he
  refine ⟨⟨?_, h.top, h.rt, h.tin, h.tlv, h.inj, ?_, ?_, ?_, ?_, h.all, ?_⟩, hp, ?_⟩
  · show (setW _ _ _).length = _
    rw [setW_len]
    exact h.len
  · intro f t' i hf a b ht
    rw [hp f i a b] at ht ⊢
    split at ht
    · rw [hn] at ht; cases ht
    · rename_i hc
      rw [if_neg hc]
      exact h.go f t' i hf a b ht
  · intro f t' i hf a b hpp ht
    rw [hp f i a b] at hpp ht ⊢
    split at ht
    · rename_i hc
      rw [if_pos hc] at hpp ⊢
      obtain ⟨rfl, rfl⟩ := hc
      rw [hg] at hf
      injection hf with hf
      subst hf
      exact hl hpp
    · rename_i hc
      rw [if_neg hc] at hpp ⊢
      exact h.lf f t' i hf a b hpp ht
  · intro f t' hf hlt
    obtain ⟨g', a, b, c⟩ := h.led f t' hf hlt
    have hne : ¬ (g' = g ∧ t'.p % 16 = j) := by
      rintro ⟨rfl, e1⟩
      rw [e1, hold] at b
      cases b
    refine ⟨g', a, ?_⟩
    rw [hp _ _ (by omega) (by omega), if_neg hne]
    exact ⟨b, c⟩
  · intro f t' i hf a b
    rw [hp f i a b]
    show wordAt (setW _ _ _) _ = _
    rw [word_setW hw]
    by_cases hc : f = g ∧ i = j
    · rw [if_pos hc, if_pos (by omega)]
    · rw [if_neg hc, if_neg (by omega)]
      exact h.wds f t' i hf a b
  · intro f t' hf hlt hne
    obtain ⟨a, b⟩ := hx f t' hf hlt hne
    by_cases hfg : f = g
    · exact ⟨j, h0, h1, by rw [hp _ _ h0 h1, if_pos ⟨hfg, rfl⟩]; exact a hfg⟩
    · obtain ⟨i, c, d, k⟩ := h.full f t' hf hlt (b hfg)
      exact ⟨i, c, d, by rw [hp _ _ c d, if_neg (by simp [hfg])]; exact k⟩
  · rintro o pg q hb ⟨f, v, ⟨hon, ht⟩, rfl⟩
    have hd := dg_in pg v
    by_cases hfg : f = g
    · subst hfg
      obtain ⟨rfl, hu⟩ := h.on_und hg h0 h1 hon
      by_cases hc : Und t j o pg
      · rw [if_pos hc]
        refine ⟨f, t.l, ⟨hon, ?_⟩, ?_⟩
        · rw [hp _ _ hd.1 hd.2, if_pos ⟨rfl, hu.2 hc⟩]; exact hn
        · rw [hp _ _ hd.1 hd.2, if_pos ⟨rfl, hu.2 hc⟩]
      · rw [if_neg hc]
        have hne : ¬ (f = f ∧ dg pg t.l = j) := fun hh => hc (hu.1 hh.2)
        refine ⟨f, t.l, ⟨hon, ?_⟩, ?_⟩
        · rw [hp _ _ hd.1 hd.2, if_neg hne]; exact ht
        · rw [hp _ _ hd.1 hd.2, if_neg hne]
    · have hc : ¬ Und t j o pg := fun hu => by
        obtain ⟨a, b⟩ := h.und_on hg h0 h1 hu
        exact hfg (h.ed_uniq (⟨hon, ht⟩ : Ed s ty o pg f v) (⟨a, by rw [b]; exact hold⟩ : Ed s ty o pg g t.l)).1
      rw [if_neg hc]
      refine ⟨f, v, ⟨hon, ?_⟩, ?_⟩
      · rw [hp _ _ hd.1 hd.2, if_neg (by simp [hfg])]; exact ht
      · rw [hp _ _ hd.1 hd.2, if_neg (by simp [hfg])]
def upd (ty : Int → Option Kd) (n : Int) (t : Option Kd) : Int → Option Kd := fun f => if f = n then t else ty f
theorem free_new {s : Sm} (h : O.Rt s.ds) (hf : 0 < O.cK s.ds 0) (o : Int) (ho : 1 ≤ o ∧ o ≤ 16) :
    newE s o = 0 ∧ 0 ≤ newF s o ∧ newF s o < s.ds.length ∧ (s.ds.getD (newF s o).toNat O.zd).k = 0 ∧ O.kL s.ds 3 o = s.ds.set (newF s o).toNat ⟨3, o, 0, 0⟩ := by
  unfold newE newF O.kE O.kF O.kL
  cases hq : O.fr s.ds with
  | nil =>
    unfold O.cK at hf
    rw [show O.wh (O.isK 0) s.ds = [] from hq] at hf
    simp at hf
  | cons f r =>
    simp only
    have hm : f ∈ O.fr s.ds := by rw [hq]; exact List.mem_cons_self ..
    obtain ⟨hl, hk⟩ := O.wh_mem.1 hm
    have hk0 : (s.ds.getD f O.zd).k = 0 := by simpa [O.isK] using hk
    have hr := (O.rt_iff _).1 (h.at f hl)
    have hn : O.nxE (O.at' s.ds (f : Nat)) 3 o = 0 := by
      unfold O.nxE O.at'
      rw [Int.toNat_natCast, h.at f hl, if_pos rfl, if_pos (by omega), hk0, if_pos (by decide +kernel), if_pos]
      rw [O.rt_iff]
      simp [O.nxD]
      omega
    have ht : O.tE s.ds (f : Nat) 3 o = 0 := by unfold O.tE; rw [if_pos ⟨by omega, by omega⟩, hn]
    unfold O.tL
    rw [ht, if_pos rfl, Int.toNat_natCast]
    exact ⟨rfl, by omega, by omega, hk0, rfl⟩
theorem cK_take {L : List O.Ds} {i : Nat} (h : i < L.length) (d : O.Ds) (h0 : (L.getD i O.zd).k = 0) (h1 : d.k ≠ 0) : O.cK (L.set i d) 0 + 1 = O.cK L 0 := by
  unfold O.cK
  rw [O.wh_count, O.wh_count, List.countP_set h]
  have e : L.getD i O.zd = L[i] := by simp [List.getD, h]
  rw [e] at h0
  have e1 : O.isK 0 L[i] = true := by simp [O.isK, h0]
  have e2 : O.isK 0 d = false := by simp [O.isK, h1]
  have : 0 < List.countP (O.isK 0) L := List.countP_pos_iff.2 ⟨L[i], List.getElem_mem h, e1⟩
  rw [e1, e2]
  simp
  omega
theorem getD_set {L : List O.Ds} {i k : Nat} {d : O.Ds} (h : i < L.length) : (L.set i d).getD k O.zd = if k = i then d else L.getD k O.zd := by
  simp only [List.getD, List.getElem?_set]
  by_cases e : i = k
  · subst e; simp [h]
  · rw [if_neg e, if_neg (by omega)]
/-- A new table hangs at a place, with what it says instead. -/
theorem Inv.hang (h : Inv s ty x) {g : Int} {t : Kd} (hg : ty g = some t) {j : Int} (h0 : 0 ≤ j) (h1 : j < 16) (hold : P.tb (pl s.xs g j) = false) (hl : 0 < t.l) (ho : 1 ≤ t.o ∧ t.o ≤ 16) (hf : 0 < O.cK s.ds 0) (ent : Nat → P.En)
    (hent : ∀ i, i < 16 → P.rt (ent i) = true ∧ P.tb (ent i) = false ∧ ((ent i).p = true → (t.l - 1 = 0 ∧ (ent i).l = false) ∨ (t.l - 1 = 1 ∧ (ent i).l = true ∧ (ent i).f % 16 = 0)))
    {x' : Int} (hx : ∀ f t, ty f = some t → t.l < 3 → f ≠ x' → f ≠ g → f ≠ x) (hx2 : newF s t.o = x' ∨ (ent 0).p = true) :
    ty (newF s t.o) = none ∧ 0 ≤ newF s t.o ∧ newF s t.o < s.ds.length ∧ Inv (hangS s t.o (16 * g + j) ent) (upd ty (newF s t.o) (some ⟨t.o, t.l - 1, 16 * t.p + j⟩)) x' ∧
    O.cK (hangS s t.o (16 * g + j) ent).ds 0 + 1 = O.cK s.ds 0 ∧ (hangS s t.o (16 * g + j) ent).ds = s.ds.set (newF s t.o).toNat ⟨3, t.o, 0, 0⟩ ∧ (s.ds.getD (newF s t.o).toNat O.zd).k = 0 ∧
    (∀ f i, 0 ≤ i → i < 16 → pl (hangS s t.o (16 * g + j) ent).xs f i = if f = g ∧ i = j then ⟨true, 0, false, newF s t.o⟩ else if f = newF s t.o then ent i.toNat else pl s.xs f i) ∧
    ∀ o pg q, P.btw pg 0 65535 = true → Vw s ty o pg q → Vw (hangS s t.o (16 * g + j) ent) (upd ty (newF s t.o) (some ⟨t.o, t.l - 1, 16 * t.p + j⟩)) o pg (if Und t j o pg then vE (ent (dg pg (t.l - 1)).toNat) (t.l - 1) pg else q) := by
  obtain ⟨n1, n2, n3, n4, n5⟩ := free_new h.rt hf t.o ho
  have hS : hangS s t.o (16 * g + j) ent = lay ⟨laidK s.xs (newF s t.o) ent 16, s.ds.set (newF s t.o).toNat ⟨3, t.o, 0, 0⟩⟩ (16 * g + j) ⟨true, 0, false, newF s t.o⟩ := by
    unfold hangS newS
    rw [if_pos n1, if_pos n1, n5]
  rw [hS]
  clear hS n1 n5
  generalize newF s t.o = n at *
  have hnn : n.toNat < s.ds.length := by omega
  have hnone : ty n = none := by
    cases hq : ty n with
    | none => rfl
    | some t' =>
      have := (h.tin n t' hq).2.2.1
      omega
  have hgn : g ≠ n := by
    rintro rfl
    rw [hg] at hnone
    cases hnone
  have hlen := h.len
  have htop := h.top
  have hpg := h.low hg
  have hw := h.wd hg h0 h1
  have hq : ∀ f i, 0 ≤ i → i < 16 → pl (laidK s.xs n ent 16) f i = if f = n then ent i.toNat else pl s.xs f i := fun f i a b => by
    rw [laidK_pl ⟨n2, by omega⟩ (by omega) (fun i hi => (hent i hi).1) 16 (Nat.le_refl _) f i a b]
    by_cases e : f = n
    · rw [if_pos ⟨e, by omega⟩, if_pos e]
    · rw [if_neg (by simp [e]), if_neg e]
  have her : P.rt ⟨true, 0, false, n⟩ = true := by
    simp [P.rt, P.btw]
    omega
  have het : P.tb ⟨true, 0, false, n⟩ = true := by unfold P.tb; rw [her]; rfl
  have hp : ∀ f i, 0 ≤ i → i < 16 → pl (lay ⟨laidK s.xs n ent 16, s.ds.set n.toNat ⟨3, t.o, 0, 0⟩⟩ (16 * g + j) ⟨true, 0, false, n⟩).xs f i = if f = g ∧ i = j then ⟨true, 0, false, n⟩ else if f = n then ent i.toNat else pl s.xs f i := fun f i a b => by
    show pl (setW (laidK s.xs n ent 16) _ _) f i = _
    rw [pl_set (by rw [laidK_len]; exact hw) ⟨h0, h1⟩ ⟨a, b⟩ her, hq f i a b]
  have hno : ∀ {f : Int} {t' : Kd}, ty f = some t' → f ≠ n := fun {f t'} hf e => by rw [e, hnone] at hf; cases hf
  have hun : ∀ f t', ty f = some t' → upd ty n (some ⟨t.o, t.l - 1, 16 * t.p + j⟩) f = some t' := fun f t' hf => by
    unfold upd
    rw [if_neg (hno hf)]
    exact hf
  have hnk : ∀ f, ty f ≠ some ⟨t.o, t.l - 1, 16 * t.p + j⟩ := fun f hf => by
    have h3 := (h.tlv g t hg).1
    obtain ⟨g', a, b, -⟩ := h.led f _ hf (by simp only; omega)
    simp only at a b
    rw [show (16 * t.p + j) / 16 = t.p by omega, show t.l - 1 + 1 = t.l by omega] at a
    have := h.inj g' g t a hg
    rw [show (16 * t.p + j) % 16 = j by omega, this, hold] at b
    cases b
  have htk : ∀ f t', upd ty n (some ⟨t.o, t.l - 1, 16 * t.p + j⟩) f = some t' → (f = n ∧ t' = ⟨t.o, t.l - 1, 16 * t.p + j⟩) ∨ (f ≠ n ∧ ty f = some t') := fun f t' hf => by
    unfold upd at hf
    split at hf
    · rename_i e
      injection hf with hf
      exact .inl ⟨e, hf.symm⟩
    · rename_i e
      exact .inr ⟨e, hf⟩
  have h3 := (h.tlv g t hg).1
  refine ⟨hnone, n2, n3, ⟨?_, ?_, ?_, ?_, ?_, ?_, ?_, ?_, ?_, ?_, ?_, ?_⟩, cK_take hnn _ n4 (by simp), rfl, n4, hp, ?_⟩
  · show (setW _ _ _).length = _
    rw [setW_len, laidK_len]
    simp [lay]
    exact hlen
  · simp [lay]
    exact htop
  · exact h.rt.set _ (by
      rw [O.rt_iff]
      simp
      omega)
  · intro f t' hf'
    show _ ∧ _ ∧ ((s.ds.set n.toNat _).getD _ _).k = 3 ∧ ((s.ds.set n.toNat _).getD _ _).r = 0
    rw [getD_set hnn]
    have hl' : (lay ⟨laidK s.xs n ent 16, s.ds.set n.toNat ⟨3, t.o, 0, 0⟩⟩ (16 * g + j) ⟨true, 0, false, n⟩).ds.length = s.ds.length := by simp [lay]
    rw [hl']
    rcases htk f t' hf' with ⟨e1, -⟩ | ⟨e1, e2⟩
    · rw [e1, if_pos rfl]
      exact ⟨n2, n3, rfl, rfl⟩
    · have := h.tin f t' e2
      rw [if_neg (by omega)]
      exact this
  · intro f t' hf'
    rcases htk f t' hf' with ⟨-, e2⟩ | ⟨-, e2⟩
    · subst e2
      obtain ⟨a, b, c⟩ := h.tlv g t hg
      simp only
      rcases (show t.l = 1 ∨ t.l = 2 ∨ t.l = 3 by omega) with e | e | e
      · rw [e] at c ⊢
        rw [wi_1] at c
        rw [show 1 - 1 = 0 from rfl, wi_0]
        omega
      · rw [e] at c ⊢
        rw [wi_2] at c
        rw [show 2 - 1 = 1 from rfl, wi_1]
        omega
      · rw [e] at c ⊢
        rw [wi_3] at c
        rw [show 3 - 1 = 2 from rfl, wi_2]
        omega
    · exact h.tlv f t' e2
  · intro f f' t' ha hb
    rcases htk f t' ha with ⟨e1, e2⟩ | ⟨e1, e2⟩
    · rcases htk f' t' hb with ⟨e3, e4⟩ | ⟨e3, e4⟩
      · rw [e1, e3]
      · rw [e2] at e4
        exact absurd e4 (hnk f')
    · rcases htk f' t' hb with ⟨e3, e4⟩ | ⟨e3, e4⟩
      · rw [e4] at e2
        exact absurd e2 (hnk f)
      · exact h.inj f f' t' e2 e4
  · intro f t' i hf' a b ht
    rw [hp f i a b] at ht ⊢
    rcases htk f t' hf' with ⟨e1, e2⟩ | ⟨e1, e2⟩
    · rw [if_neg (fun e => hgn (e.1.symm.trans e1)), if_pos e1] at ht
      rw [(hent i.toNat (by omega)).2.1] at ht
      cases ht
    · by_cases hc : f = g ∧ i = j
      · rw [if_pos hc]
        obtain ⟨rfl, rfl⟩ := hc
        rw [hg] at e2
        injection e2 with e2
        subst e2
        exact ⟨hl, by unfold upd; rw [if_pos rfl]⟩
      · rw [if_neg hc, if_neg e1] at ht ⊢
        obtain ⟨c, d⟩ := h.go f t' i e2 a b ht
        exact ⟨c, hun _ _ d⟩
  · intro f t' i hf' a b hpp ht
    rw [hp f i a b] at hpp ht ⊢
    rcases htk f t' hf' with ⟨e1, e2⟩ | ⟨e1, e2⟩
    · have hne : ¬ (f = g ∧ i = j) := fun e => hgn (e.1.symm.trans e1)
      rw [if_neg hne, if_pos e1] at hpp ht ⊢
      subst e2
      exact (hent i.toNat (by omega)).2.2 hpp
    · by_cases hc : f = g ∧ i = j
      · rw [if_pos hc, het] at ht
        cases ht
      · rw [if_neg hc, if_neg e1] at hpp ht ⊢
        exact h.lf f t' i e2 a b hpp ht
  · intro f t' hf' hlt
    rcases htk f t' hf' with ⟨e1, e2⟩ | ⟨e1, e2⟩
    · subst e2
      simp only
      refine ⟨g, ?_, ?_⟩
      · rw [show (16 * t.p + j) / 16 = t.p by omega, show t.l - 1 + 1 = t.l by omega]
        exact hun _ _ hg
      · rw [show (16 * t.p + j) % 16 = j by omega, hp _ _ h0 h1, if_pos ⟨rfl, rfl⟩]
        exact ⟨het, e1.symm⟩
    · obtain ⟨g', a, b, c⟩ := h.led f t' e2 hlt
      have hne : ¬ (g' = g ∧ t'.p % 16 = j) := by
        rintro ⟨rfl, e3⟩
        rw [e3, hold] at b
        cases b
      refine ⟨g', hun _ _ a, ?_⟩
      rw [hp _ _ (by omega) (by omega), if_neg hne, if_neg (hno a)]
      exact ⟨b, c⟩
  · intro f t' i hf' a b
    rw [hp f i a b]
    show wordAt (setW (laidK s.xs n ent 16) _ _) _ = _
    rw [word_setW (by rw [laidK_len]; exact hw)]
    by_cases hc : f = g ∧ i = j
    · rw [if_pos hc, if_pos (by omega)]
    · rw [if_neg hc, if_neg (by omega)]
      rcases htk f t' hf' with ⟨e1, e2⟩ | ⟨e1, e2⟩
      · rw [if_pos e1, e1]
        exact laidK_word ⟨n2, by omega⟩ (by omega) a b
      · rw [if_neg e1, laidK_other ⟨n2, by omega⟩ (by omega) e1 a b]
        exact h.wds f t' i e2 a b
  · intro f hf0 hf1 hk
    have hk' : ((s.ds.set n.toNat ⟨3, t.o, 0, 0⟩).getD f.toNat O.zd).k = 3 := hk
    rw [getD_set hnn] at hk'
    by_cases e : f = n
    · exact ⟨_, by unfold upd; rw [if_pos e]⟩
    · rw [if_neg (by omega)] at hk'
      have hf1' : f < s.ds.length := by simpa [lay] using hf1
      obtain ⟨t', ht'⟩ := h.all f hf0 hf1' hk'
      exact ⟨t', hun _ _ ht'⟩
  · intro f t' hf' hlt hne
    rcases htk f t' hf' with ⟨e1, e2⟩ | ⟨e1, e2⟩
    · rcases hx2 with hx2 | hx2
      · exact absurd (e1.trans hx2) hne
      · refine ⟨0, by omega, by omega, ?_⟩
        rw [hp _ _ (by omega) (by omega), if_neg (fun e => hgn (e.1.symm.trans e1)), if_pos e1]
        exact hx2
    · by_cases hfg : f = g
      · exact ⟨j, h0, h1, by rw [hp _ _ h0 h1, if_pos ⟨hfg, rfl⟩]⟩
      · obtain ⟨i, c, d, k⟩ := h.full f t' e2 hlt (hx f t' e2 hlt hne hfg)
        exact ⟨i, c, d, by rw [hp _ _ c d, if_neg (by simp [hfg]), if_neg e1]; exact k⟩
  · rintro o pg q hb ⟨f, v, ⟨hon, ht⟩, rfl⟩
    have hd := dg_in pg v
    by_cases hc : Und t j o pg
    · rw [if_pos hc]
      have hd1 := dg_in pg (t.l - 1)
      obtain ⟨e1, e2⟩ := h.und_on hg h0 h1 hc
      unfold On at e1
      rw [hg] at e1
      injection e1 with e1
      refine ⟨n, t.l - 1, ⟨?_, ?_⟩, ?_⟩
      · unfold On upd
        rw [if_pos rfl, down_one (l := t.l - 1) (by omega), show t.l - 1 + 1 = t.l by omega, e2]
        have eo : t.o = o := by rw [e1]
        have ep : t.p = pg / wi t.l := by conv => lhs; rw [e1]
        rw [eo, ep]
      · rw [hp _ _ hd1.1 hd1.2, if_neg (fun e => hgn e.1.symm), if_pos rfl]
        exact (hent _ (by omega)).2.1
      · rw [hp _ _ hd1.1 hd1.2, if_neg (fun e => hgn e.1.symm), if_pos rfl]
    · rw [if_neg hc]
      have hfn := hno hon
      have hne : ¬ (f = g ∧ dg pg v = j) := by
        rintro ⟨rfl, e⟩
        exact hc ((h.on_und hg h0 h1 hon).2.1 e)
      refine ⟨f, v, ⟨hun _ _ hon, ?_⟩, ?_⟩
      · rw [hp _ _ hd.1 hd.2, if_neg hne, if_neg hfn]; exact ht
      · rw [hp _ _ hd.1 hd.2, if_neg hne, if_neg hfn]
end
end Go.Proofs.YtpfmmlbakbhklaaGreatDoor
namespace Go.Proofs.YtpfmmlbakbhklaaGreatDoor
open Go.RowKit
/-- What a guest's call keeps of the others, and of the frames. -/
structure Stp (o : Int) (s : Sm) (ty : Int → Option Kd) (s' : Sm) (ty' : Int → Option Kd) : Prop where
  len : s'.ds.length = s.ds.length
  oth : ∀ f t, t.o ≠ o → (ty' f = some t ↔ ty f = some t)
  pls : ∀ f t, ty f = some t → t.o ≠ o → ∀ i, 0 ≤ i → i < 16 → pl s'.xs f i = pl s.xs f i
  root : ∀ f t, ty f = some t → t.l = 3 → ty' f = some t
  kds : ∀ i : Nat, ((s.ds.getD i O.zd).k = 5 → (s'.ds.getD i O.zd).k = 5) ∧ ((s.ds.getD i O.zd).k = 3 → (s'.ds.getD i O.zd).k = 3 ∨ (s'.ds.getD i O.zd).k = 5)
theorem Stp.refl (o : Int) (s : Sm) (ty : Int → Option Kd) : Stp o s ty s ty := ⟨rfl, fun _ _ _ => Iff.rfl, fun _ _ _ _ _ _ _ => rfl, fun _ _ h _ => h, fun _ => ⟨id, .inl⟩⟩
theorem Stp.trans {o : Int} {s s' s'' : Sm} {ty ty' ty'' : Int → Option Kd} (h : Stp o s ty s' ty') (k : Stp o s' ty' s'' ty'') : Stp o s ty s'' ty'' :=
  ⟨k.len.trans h.len, fun f t ht => (k.oth f t ht).trans (h.oth f t ht), fun f t hf ht i a b => (k.pls f t ((h.oth f t ht).2 hf) ht i a b).trans (h.pls f t hf ht i a b), fun f t hf ht => k.root f t (h.root f t hf ht) ht,
    fun i => ⟨fun e => (k.kds i).1 ((h.kds i).1 e), fun e => ((h.kds i).2 e).elim (k.kds i).2 fun e' => .inr ((k.kds i).1 e')⟩⟩
section
variable {s : Sm} {ty : Int → Option Kd} {x : Int}
/-- A frame that may be empty, and is not, is no exception. -/
theorem Inv.noex (h : Inv s ty x) {x' : Int} (hx : ∀ f t, ty f = some t → t.l < 3 → f ≠ x' → f = x → ∃ j, 0 ≤ j ∧ j < 16 ∧ (pl s.xs f j).p = true) : Inv s ty x' :=
  ⟨h.len, h.top, h.rt, h.tin, h.tlv, h.inj, h.go, h.lf, h.led, h.wds, h.all, fun f t hf hl hne => by
    by_cases e : f = x
    · exact hx f t hf hl hne e
    · exact h.full f t hf hl e⟩
theorem leafStp {g : Int} {t : Kd} (hg : ty g = some t) {j : Int} {e : P.En} (hp : ∀ f i, 0 ≤ i → i < 16 → pl (lay s (16 * g + j) e).xs f i = if f = g ∧ i = j then e else pl s.xs f i) : Stp t.o s ty (lay s (16 * g + j) e) ty :=
  ⟨rfl, fun _ _ _ => Iff.rfl, fun f t' hf ht i a b => by
    rw [hp f i a b, if_neg]
    rintro ⟨rfl, -⟩
    rw [hg] at hf
    injection hf with hf
    exact ht (by rw [hf]), fun _ _ h _ => h, fun _ => ⟨id, .inl⟩⟩
theorem hangStp {g : Int} {t : Kd} (hg : ty g = some t) {j n : Int} {tn : Kd} {s' : Sm} {ent : Nat → P.En} (hn : ty n = none) (n2 : 0 ≤ n) (n3 : n < s.ds.length) (hds : s'.ds = s.ds.set n.toNat ⟨3, t.o, 0, 0⟩) (hk : (s.ds.getD n.toNat O.zd).k = 0) (hto : tn.o = t.o)
    (hp : ∀ f i, 0 ≤ i → i < 16 → pl s'.xs f i = if f = g ∧ i = j then ⟨true, 0, false, n⟩ else if f = n then ent i.toNat else pl s.xs f i) : Stp t.o s ty s' (upd ty n (some tn)) := by
  have hno : ∀ {f : Int} {t' : Kd}, ty f = some t' → f ≠ n := fun {f t'} hf e => by rw [e, hn] at hf; cases hf
  refine ⟨by rw [hds]; simp, fun f t' ht => ?_, fun f t' hf ht i a b => ?_, fun f t' hf _ => ?_, fun i => ?_⟩
  · unfold upd
    by_cases e : f = n
    · rw [if_pos e]
      constructor
      · intro hh
        injection hh with hh
        exact absurd (by rw [← hh, hto]) ht
      · intro hh
        exact absurd e (hno hh)
    · rw [if_neg e]
  · rw [hp f i a b, if_neg, if_neg (hno hf)]
    rintro ⟨rfl, -⟩
    rw [hg] at hf
    injection hf with hf
    exact ht (by rw [hf])
  · unfold upd
    rw [if_neg (hno hf)]
    exact hf
  · rw [hds, getD_set (by omega)]
    by_cases e : i = n.toNat
    · rw [if_pos e, e, hk]
      exact ⟨fun hh => absurd hh (by decide), fun hh => absurd hh (by decide)⟩
    · rw [if_neg e]
      exact ⟨id, .inl⟩
theorem retired_at {L : List O.Ds} (h : O.Rt L) {c : Int} (h0 : 0 ≤ c ∧ c < L.length) (hk : (L.getD c.toNat O.zd).k = 3) (hr : (L.getD c.toNat O.zd).r = 0) : ∃ d : O.Ds, O.tL L c 5 0 = L.set c.toNat d ∧ O.rt d = true ∧ d.k = 5 := by
  have hR := h.at c.toNat (by omega)
  have hi := (O.rt_iff _).1 hR
  have hd : O.rt (O.nxD (O.at' L c) 5 0) = true := by
    rw [O.rt_iff]
    unfold O.at' O.nxD
    generalize L.getD c.toNat O.zd = D at *
    simp
    omega
  have hn : O.nxE (O.at' L c) 5 0 = 0 := by
    unfold O.nxE
    rw [if_pos hd]
    unfold O.at'
    rw [hR, if_pos rfl, if_pos hr, hk, if_pos (by decide +kernel)]
  have ht : O.tE L c 5 0 = 0 := by unfold O.tE; rw [if_pos h0, hn]
  refine ⟨O.nxD (O.at' L c) 5 0, ?_, hd, rfl⟩
  unfold O.tL
  rw [if_pos ht]
theorem pl_zd (xs : List Int) (f j : Int) (h : wordAt xs (16 * f + j) = 0) : pl xs f j = P.zd := by
  unfold pl
  rw [h]
  unfold P.prD
  rw [if_pos (by decide +kernel)]
  rfl
theorem tb_zd : P.tb P.zd = false := by decide +kernel
theorem rt_zd' : P.rt P.zd = true := by decide +kernel
theorem pk_zd' : P.pk P.zd = 0 := by decide +kernel
/-- An empty table is taken away. -/
theorem Inv.take (h : Inv s ty x) {c : Int} {t : Kd} (hc : ty c = some t) (hl : t.l < 3) (hemp : ∀ i, 0 ≤ i → i < 16 → pl s.xs c i = P.zd) {g : Int} (hg : ty g = some ⟨t.o, t.l + 1, t.p / 16⟩) (htb : P.tb (pl s.xs g (t.p % 16)) = true) (hgc : (pl s.xs g (t.p % 16)).f = c)
    (hx : ∀ f t, ty f = some t → t.l < 3 → f ≠ c → f ≠ g → f ≠ x) :
    Inv ⟨setW s.xs (16 * g + t.p % 16) 0, O.tL s.ds c 5 0⟩ (upd ty c none) g ∧ Stp t.o s ty ⟨setW s.xs (16 * g + t.p % 16) 0, O.tL s.ds c 5 0⟩ (upd ty c none) ∧ O.cK (O.tL s.ds c 5 0) 0 = O.cK s.ds 0 ∧
    (∀ f i, 0 ≤ i → i < 16 → pl (setW s.xs (16 * g + t.p % 16) 0) f i = if f = g ∧ i = t.p % 16 then P.zd else pl s.xs f i) ∧
    ∀ o pg q, P.btw pg 0 65535 = true → Vw s ty o pg q → Vw ⟨setW s.xs (16 * g + t.p % 16) 0, O.tL s.ds c 5 0⟩ (upd ty c none) o pg q := by
  obtain ⟨i1, i2, i3, i4⟩ := h.tin c t hc
  obtain ⟨d, hd1, hd2, hd3⟩ := retired_at h.rt ⟨i1, i2⟩ i3 i4
  have hcc : c.toNat < s.ds.length := by omega
  have hw := h.wd hg (j := t.p % 16) (by omega) (by omega)
  have hp : ∀ f i, 0 ≤ i → i < 16 → pl (setW s.xs (16 * g + t.p % 16) 0) f i = if f = g ∧ i = t.p % 16 then P.zd else pl s.xs f i := fun f i a b => by
    rw [← pk_zd']
    exact pl_set hw ⟨by omega, by omega⟩ ⟨a, b⟩ rt_zd'
  have hgne : g ≠ c := by
    rintro rfl
    rw [hc] at hg
    injection hg with hg
    have : t.l = t.l + 1 := congrArg Kd.l hg
    omega
  have hup : ∀ f t', upd ty c none f = some t' → f ≠ c ∧ ty f = some t' := fun f t' hf => by
    unfold upd at hf
    split at hf
    · cases hf
    · exact ⟨‹_›, hf⟩
  have hun : ∀ f t', f ≠ c → ty f = some t' → upd ty c none f = some t' := fun f t' e hf => by
    unfold upd
    rw [if_neg e]
    exact hf
  rw [hd1]
  refine ⟨⟨?_, ?_, h.rt.set _ hd2, ?_, ?_, ?_, ?_, ?_, ?_, ?_, ?_, ?_⟩, ⟨by simp, ?_, ?_, ?_, ?_⟩, ?_, hp, ?_⟩
  · show (setW _ _ _).length = _
    rw [setW_len]
    simp [h.len]
  · simp [h.top]
  · intro f t' hf
    obtain ⟨e, hf⟩ := hup f t' hf
    have := h.tin f t' hf
    show _ ∧ _ ∧ ((s.ds.set c.toNat d).getD _ _).k = 3 ∧ ((s.ds.set c.toNat d).getD _ _).r = 0
    rw [getD_set hcc, if_neg (by omega)]
    simpa using this
  · intro f t' hf
    exact h.tlv f t' (hup f t' hf).2
  · intro f f' t' a b
    exact h.inj f f' t' (hup f t' a).2 (hup f' t' b).2
  · intro f t' i hf a b ht
    obtain ⟨e, hf⟩ := hup f t' hf
    simp only at ht ⊢
    rw [hp f i a b] at ht ⊢
    by_cases hq : f = g ∧ i = t.p % 16
    · rw [if_pos hq, tb_zd] at ht
      cases ht
    · rw [if_neg hq] at ht ⊢
      obtain ⟨k1, k2⟩ := h.go f t' i hf a b ht
      refine ⟨k1, hun _ _ (fun e' => ?_) k2⟩
      rw [e', hc] at k2
      injection k2 with k2
      have k3 : t.o = t'.o := by rw [k2]
      have k4 : t.l = t'.l - 1 := by rw [k2]
      have k5 : t.p = 16 * t'.p + i := by rw [k2]
      refine hq ⟨h.inj f g ⟨t.o, t.l + 1, t.p / 16⟩ ?_ hg, by omega⟩
      rw [hf, k3, k4, k5, show (16 * t'.p + i) / 16 = t'.p by omega, show t'.l - 1 + 1 = t'.l by omega]
  · intro f t' i hf a b hpp ht
    obtain ⟨e, hf⟩ := hup f t' hf
    simp only at hpp ht ⊢
    rw [hp f i a b] at hpp ht ⊢
    by_cases hq : f = g ∧ i = t.p % 16
    · rw [if_pos hq] at hpp
      cases hpp
    · rw [if_neg hq] at hpp ht ⊢
      exact h.lf f t' i hf a b hpp ht
  · intro f t' hf hlt
    obtain ⟨e, hf⟩ := hup f t' hf
    obtain ⟨g', a, b, k⟩ := h.led f t' hf hlt
    have hg'c : g' ≠ c := by
      rintro rfl
      rw [hemp _ (by omega) (by omega), tb_zd] at b
      cases b
    refine ⟨g', hun _ _ hg'c a, ?_⟩
    simp only
    rw [hp _ _ (by omega) (by omega), if_neg]
    · exact ⟨b, k⟩
    · rintro ⟨rfl, e2⟩
      rw [e2, hgc] at k
      exact e k.symm
  · intro f t' i hf a b
    obtain ⟨e, hf⟩ := hup f t' hf
    simp only
    rw [hp f i a b, word_setW hw]
    by_cases hq : f = g ∧ i = t.p % 16
    · rw [if_pos hq, if_pos (by omega), pk_zd']
    · rw [if_neg hq, if_neg (by omega)]
      exact h.wds f t' i hf a b
  · intro f hf0 hf1 hk
    have hk' : ((s.ds.set c.toNat d).getD f.toNat O.zd).k = 3 := hk
    rw [getD_set hcc] at hk'
    by_cases e : f = c
    · rw [if_pos (by omega), hd3] at hk'
      cases hk'
    · rw [if_neg (by omega)] at hk'
      obtain ⟨t', ht'⟩ := h.all f hf0 (by simpa using hf1) hk'
      exact ⟨t', hun _ _ e ht'⟩
  · intro f t' hf hlt hne
    obtain ⟨e, hf⟩ := hup f t' hf
    obtain ⟨i, a, b, k⟩ := h.full f t' hf hlt (hx f t' hf hlt e hne)
    exact ⟨i, a, b, by simp only; rw [hp _ _ a b, if_neg (by simp [hne])]; exact k⟩
  · intro f t' ht
    constructor
    · exact fun hf => (hup f t' hf).2
    · intro hf
      refine hun _ _ (fun e => ?_) hf
      rw [e, hc] at hf
      injection hf with hf
      exact ht (by rw [hf])
  · intro f t' hf ht i a b
    simp only
    rw [hp f i a b, if_neg]
    rintro ⟨rfl, -⟩
    rw [hg] at hf
    injection hf with hf
    exact ht (by rw [← hf])
  · intro f t' hf ht
    refine hun _ _ (fun e => ?_) hf
    rw [e, hc] at hf
    injection hf with hf
    rw [hf] at hl
    omega
  · intro i
    show (_ → ((s.ds.set c.toNat d).getD i O.zd).k = 5) ∧ (_ → ((s.ds.set c.toNat d).getD i O.zd).k = 3 ∨ ((s.ds.set c.toNat d).getD i O.zd).k = 5)
    rw [getD_set hcc]
    by_cases e : i = c.toNat
    · rw [if_pos e]
      exact ⟨fun _ => hd3, fun _ => .inr hd3⟩
    · rw [if_neg e]
      exact ⟨id, .inl⟩
  · exact cK_set hcc d 0 (by unfold O.isK; rw [i3]; rfl) (by unfold O.isK; rw [hd3]; rfl)
  · rintro o pg q hb ⟨f, v, ⟨hon, ht⟩, rfl⟩
    have hdd := dg_in pg v
    by_cases e : f = c
    · subst e
      have hon' := hon
      unfold On at hon'
      rw [hc] at hon'
      injection hon' with hon'
      have k3 : t.o = o := by rw [hon']
      have k4 : t.l = v := by rw [hon']
      have k5 : t.p = pg / wi v := by rw [hon']
      obtain ⟨u1, u2⟩ := up_one (pg := pg) (l := v) (by omega)
      rw [← k5] at u1 u2
      have hdv := dg_in pg (v + 1)
      refine ⟨g, v + 1, ⟨?_, ?_⟩, ?_⟩
      · unfold On
        refine hun _ _ hgne ?_
        rw [hg, u1, k3, k4]
      · simp only
        rw [hp _ _ hdv.1 hdv.2, if_pos ⟨rfl, u2.symm⟩]
        exact tb_zd
      · simp only
        rw [hp _ _ hdv.1 hdv.2, if_pos ⟨rfl, u2.symm⟩, hemp _ hdd.1 hdd.2]
        rfl
    · have hq : ¬ (f = g ∧ dg pg v = t.p % 16) := by
        rintro ⟨rfl, e2⟩
        rw [e2, htb] at ht
        cases ht
      refine ⟨f, v, ⟨hun _ _ e hon, ?_⟩, ?_⟩
      · simp only
        rw [hp _ _ hdd.1 hdd.2, if_neg hq]
        exact ht
      · simp only
        rw [hp _ _ hdd.1 hdd.2, if_neg hq]
theorem cutW_at {xs : List Int} {f : Int} (h : 0 ≤ f ∧ f ≤ 4095) (hx : 16 * f + 16 ≤ xs.length) : cutW xs (P.at' f 0 0) 16 = (List.range 16).map fun i => wordAt xs (16 * f + (i : Nat)) := by
  have ha : P.at' f 0 0 = 16 * f := by
    have := at_k h (k := 0) (by decide)
    simpa using this
  unfold cutW
  rw [ha, if_pos (allB_yes.2 ⟨by omega, by omega, by omega⟩)]
  apply List.ext_getElem?
  intro i
  by_cases hi : i < 16
  · rw [show (16 : Int).toNat = 16 from rfl, cut_get hi, List.getElem?_map, List.getElem?_range hi]
    simp only [Option.map_some]
    have hb : inB xs.length (16 * f + (i : Nat)) = true := inB_yes.2 ⟨by omega, by omega⟩
    unfold wordAt
    rw [if_pos hb, show (16 * f + (i : Nat)).toNat = (16 * f).toNat + i by omega]
    have : (16 * f).toNat + i < xs.length := by omega
    simp [List.getD, this]
  · rw [List.getElem?_eq_none (by simp [cut]; omega), List.getElem?_eq_none (by simp; omega)]
theorem empW_iff {xs : List Int} {f : Int} (h : 0 ≤ f ∧ f ≤ 4095) (hx : 16 * f + 16 ≤ xs.length) : empW xs f = true ↔ ∀ i : Int, 0 ≤ i → i < 16 → wordAt xs (16 * f + i) = 0 := by
  unfold empW
  rw [cutW_at h hx, List.all_map, List.all_eq_true]
  constructor
  · intro hh i a b
    have := hh i.toNat (List.mem_range.2 (by omega))
    simp only [Function.comp_apply, beq_iff_eq] at this
    rw [show ((i.toNat : Nat) : Int) = i by omega] at this
    exact this
  · intro hh i hi
    have := List.mem_range.1 hi
    simp only [Function.comp_apply, beq_iff_eq]
    exact hh i (by omega) (by omega)
theorem zd_of {e : P.En} (h : P.rt e = true) (hp : e.p = false) : e = P.zd := by
  obtain ⟨p, r, l, f⟩ := e
  simp only at hp
  subst hp
  unfold P.rt at h
  simp at h
  obtain ⟨⟨h1, h2⟩, h3⟩ := h
  rw [h1, h2, h3]
  rfl
theorem Inv.emp (h : Inv s ty x) {c : Int} {t : Kd} (hc : ty c = some t) (he : empW s.xs c = true) : ∀ i, 0 ≤ i → i < 16 → pl s.xs c i = P.zd := by
  have := h.tin c t hc
  have := h.len
  have := (empW_iff (h.low hc) (by omega)).1 he
  exact fun i a b => pl_zd _ _ _ (this i a b)
theorem Inv.nemp (h : Inv s ty x) {c : Int} {t : Kd} (hc : ty c = some t) (he : empW s.xs c = false) : ∃ j, 0 ≤ j ∧ j < 16 ∧ (pl s.xs c j).p = true := by
  apply Classical.byContradiction
  intro hn
  have h1 := h.tin c t hc
  have h2 := h.len
  have : empW s.xs c = true := (empW_iff (h.low hc) (by omega)).2 fun i a b => by
    cases hq : (pl s.xs c i).p
    · rw [h.wds c t i hc a b, zd_of (pl_rt _ _ _) hq]
      exact pk_zd'
    · exact absurd ⟨i, a, b, hq⟩ hn
  rw [he] at this
  cases this
end
end Go.Proofs.YtpfmmlbakbhklaaGreatDoor
namespace Go.Proofs.YtpfmmlbakbhklaaGreatDoor
open Go.RowKit
/-- A page's tables, from one of them up to the root. -/
def Up (s : Sm) (ty : Int → Option Kd) (o pg : Int) : List (Int × Nat) → Prop
  | [] => False
  | x :: [] => On ty o pg x.1 x.2 ∧ x.2 = 3
  | x :: y :: r => On ty o pg x.1 x.2 ∧ y.2 = x.2 + 1 ∧ P.tb (pl s.xs y.1 (dg pg y.2)) = true ∧ (pl s.xs y.1 (dg pg y.2)).f = x.1 ∧ Up s ty o pg (y :: r)
theorem Up.on {s : Sm} {ty : Int → Option Kd} {o pg : Int} : ∀ {l : List (Int × Nat)}, Up s ty o pg l → ∀ z, z ∈ l → On ty o pg z.1 z.2
  | [], h, _, _ => h.elim
  | x :: [], h, z, hz => by
    rw [List.mem_singleton.1 hz]
    exact h.1
  | x :: y :: r, h, z, hz => by
    rcases List.mem_cons.1 hz with rfl | hz
    · exact h.1
    · exact Up.on h.2.2.2.2 z hz
theorem Up.lev {s : Sm} {ty : Int → Option Kd} {o pg : Int} : ∀ {r : List (Int × Nat)} {y : Int × Nat}, Up s ty o pg (y :: r) → ∀ z, z ∈ r → y.2 < z.2
  | [], _, _, _, hz => by cases hz
  | y' :: r, y, h, z, hz => by
    have h1 := h.2.1
    rcases List.mem_cons.1 hz with rfl | hz
    · omega
    · have := Up.lev h.2.2.2.2 z hz
      omega
theorem Up.keep {s s' : Sm} {ty ty' : Int → Option Kd} {o pg : Int} : ∀ {r : List (Int × Nat)} {y : Int × Nat}, Up s ty o pg (y :: r) → (∀ z, z ∈ y :: r → On ty' o pg z.1 z.2) → (∀ z, z ∈ r → pl s'.xs z.1 (dg pg z.2) = pl s.xs z.1 (dg pg z.2)) → Up s' ty' o pg (y :: r)
  | [], y, h, h1, _ => ⟨h1 y (List.mem_cons_self ..), h.2⟩
  | y' :: r, y, h, h1, h2 => by
    have e := h2 y' (List.mem_cons_self ..)
    refine ⟨h1 y (List.mem_cons_self ..), h.2.1, by rw [e]; exact h.2.2.1, by rw [e]; exact h.2.2.2.1, Up.keep h.2.2.2.2 (fun z hz => h1 z (List.mem_cons_of_mem _ hz)) (fun z hz => h2 z (List.mem_cons_of_mem _ hz))⟩
theorem way_end (xs : List Int) (pg : Int) (lo : Nat) : ∀ (v : Nat) (fr : Int), ∃ l, wayF xs pg lo v fr = l ++ [endF xs pg lo v fr]
  | 0, fr => ⟨[], rfl⟩
  | v + 1, fr => by
    unfold wayF endF
    split
    · obtain ⟨l, hl⟩ := way_end xs pg lo v (en xs pg fr (v + 1)).f
      exact ⟨(fr, v + 1) :: l, by rw [hl]; rfl⟩
    · exact ⟨[], rfl⟩
section
variable {s : Sm} {ty : Int → Option Kd} {x : Int}
theorem Inv.way_up (h : Inv s ty x) {o pg : Int} (hb : P.btw pg 0 65535 = true) : ∀ (v : Nat) (fr : Int) (acc : List (Int × Nat)), Up s ty o pg ((fr, v) :: acc) → Up s ty o pg ((wayF s.xs pg 0 v fr).reverse ++ acc)
  | 0, fr, acc, hu => hu
  | v + 1, fr, acc, hu => by
    have hon := hu.on (fr, v + 1) (List.mem_cons_self ..)
    have h3 := (h.tlv _ _ hon).1
    have he := en_pl (xs := s.xs) hb h3 (h.low hon)
    simp only at he h3
    unfold wayF
    rw [he]
    split
    · rename_i hc
      simp only [Bool.and_eq_true, decide_eq_true_eq] at hc
      rw [List.reverse_cons, List.append_assoc]
      exact h.way_up hb v _ _ ⟨h.step hon hc.2, rfl, hc.2, rfl, hu⟩
    · exact hu
theorem Inv.thin {o pg : Int} (hb : P.btw pg 0 65535 = true) : ∀ (r : List (Int × Nat)) (y : Int × Nat) (s : Sm) (ty : Int → Option Kd) (x : Int), Inv s ty x → Up s ty o pg (y :: r) → (∀ f t, ty f = some t → t.l < 3 → f ≠ y.1 → f ≠ x) →
    ∃ ty', Inv (thinS pg (y :: r) s) ty' (-1) ∧ Stp o s ty (thinS pg (y :: r) s) ty' ∧ O.cK (thinS pg (y :: r) s).ds 0 = O.cK s.ds 0 ∧ ∀ o' pg' q, P.btw pg' 0 65535 = true → Vw s ty o' pg' q → Vw (thinS pg (y :: r) s) ty' o' pg' q
  | [], y, s, ty, x, h, hu, hx => by
    refine ⟨ty, h.noex fun f t hf hl _ e => ?_, Stp.refl .., rfl, fun _ _ _ _ hv => hv⟩
    by_cases e2 : f = y.1
    · have h1 := hu.1
      unfold On at h1
      rw [← e2, hf] at h1
      injection h1 with h1
      have : t.l = y.2 := congrArg Kd.l h1
      have := hu.2
      omega
    · exact absurd e (hx f t hf hl e2)
  | z :: r, y, s, ty, x, h, hu, hx => by
    obtain ⟨hon, hlz, htb, hfz, hu'⟩ := hu
    have honz := hu'.on z (List.mem_cons_self ..)
    have h3 := (h.tlv _ _ honz).1
    simp only at h3
    cases hemp : empW s.xs y.1
    · have hS : thinS pg (y :: z :: r) s = s := by unfold thinS; rw [hemp, if_neg (by decide)]
      rw [hS]
      refine ⟨ty, h.noex fun f t hf hl _ e => ?_, Stp.refl .., rfl, fun _ _ _ _ hv => hv⟩
      by_cases e2 : f = y.1
      · rw [e2]
        exact h.nemp hon hemp
      · exact absurd e (hx f t hf hl e2)
    · have hS : thinS pg (y :: z :: r) s = thinS pg (z :: r) ⟨setW s.xs (P.at' z.1 pg z.2) 0, O.tL s.ds y.1 5 0⟩ := by conv => lhs; unfold thinS; rw [hemp, if_pos rfl]
      rw [hS]
      obtain ⟨u1, u2⟩ := up_one (pg := pg) (l := y.2) (by omega)
      rw [← hlz] at u1 u2
      have hg : ty z.1 = some ⟨o, y.2 + 1, pg / wi y.2 / 16⟩ := by
        rw [u1, ← hlz]
        exact honz
      obtain ⟨a1, a2, a3, a4, a5⟩ := h.take hon (by simp only; omega) (h.emp hon hemp) hg (by simp only; rw [u2]; exact htb) (by simp only; rw [u2]; exact hfz) (fun f t hf hl e1 e2 => hx f t hf hl e1)
      simp only at a1 a2 a3 a4 a5
      rw [u2] at a1 a2 a4 a5
      rw [at_dg hb h3 (h.low honz)]
      obtain ⟨ty', b1, b2, b3, b4⟩ := Inv.thin hb r z _ _ _ a1 (hu'.keep (fun w hw => by
          have hw' := hu'.on w hw
          unfold On upd
          rw [if_neg]
          · exact hw'
          · intro e
            have h1 := hon
            unfold On at h1 hw'
            rw [← e, hw'] at h1
            injection h1 with h1
            have h2 : w.2 = y.2 := congrArg Kd.l h1
            rcases List.mem_cons.1 hw with rfl | hw
            · omega
            · have := hu'.lev w hw
              omega) (fun w hw => by
          have hd := dg_in pg w.2
          simp only
          rw [a4 _ _ hd.1 hd.2, if_neg]
          rintro ⟨e, -⟩
          have h1 := honz
          have h2 := hu'.on w (List.mem_cons_of_mem _ hw)
          unfold On at h1 h2
          rw [← e, h2] at h1
          injection h1 with h1
          have h4 : w.2 = z.2 := congrArg Kd.l h1
          have := hu'.lev w hw
          omega)) (fun _ _ _ _ e => e)
      exact ⟨ty', b1, a2.trans b2, b3.trans a3, fun o' pg' q hb' hv => b4 o' pg' q hb' (a5 o' pg' q hb' hv)⟩
end
end Go.Proofs.YtpfmmlbakbhklaaGreatDoor
namespace Go.Proofs.YtpfmmlbakbhklaaGreatDoor
open Go.RowKit
/-- How many tables a guest has. -/
def ownT (ty : Int → Option Kd) (o : Int) (i : Nat) : Bool := match ty (i : Int) with | some t => t.o == o | none => false
def nT (ty : Int → Option Kd) (o : Int) (N : Nat) : Nat := (List.range N).countP (ownT ty o)
theorem nT_succ (ty : Int → Option Kd) (o : Int) (N : Nat) : nT ty o (N + 1) = nT ty o N + if ownT ty o N = true then 1 else 0 := by
  unfold nT
  rw [List.range_succ, List.countP_append, List.countP_cons, List.countP_nil, Nat.zero_add]
theorem nT_same {ty ty' : Int → Option Kd} {o : Int} {N : Nat} (h : ∀ i, i < N → ownT ty' o i = ownT ty o i) : nT ty' o N = nT ty o N := by
  induction N with
  | zero => rfl
  | succ N ih => rw [nT_succ, nT_succ, ih fun i hi => h i (by omega), h N (by omega)]
theorem nT_upd {ty : Int → Option Kd} {o n : Int} {t : Kd} (hn : ty n = none) (h0 : 0 ≤ n) (ht : t.o = o) : ∀ {N : Nat}, n < N → nT (upd ty n (some t)) o N = nT ty o N + 1
  | 0, h => absurd h (by omega)
  | N + 1, h => by
    rw [nT_succ, nT_succ]
    by_cases e : n = N
    · have e1 : ownT (upd ty n (some t)) o N = true := by
        unfold ownT upd
        rw [if_pos e.symm]
        simp [ht]
      have e2 : ownT ty o N = false := by
        unfold ownT
        rw [← e, hn]
      rw [e1, e2, if_pos rfl, if_neg (by decide), nT_same (ty' := upd ty n (some t)) fun i hi => by
        unfold ownT upd
        rw [if_neg (by omega)]]
    · have e1 : ownT (upd ty n (some t)) o N = ownT ty o N := by
        unfold ownT upd
        rw [if_neg (by omega)]
      rw [e1, nT_upd hn h0 ht (by omega)]
      omega
theorem Stp.nT_oth {o : Int} {s s' : Sm} {ty ty' : Int → Option Kd} (h : Stp o s ty s' ty') {o' : Int} (ho : o' ≠ o) (N : Nat) : nT ty' o' N = nT ty o' N := by
  refine nT_same fun i _ => ?_
  have key : ∀ {a b : Int → Option Kd}, (∀ f t, t.o ≠ o → (a f = some t → b f = some t)) → ownT a o' i = true → ownT b o' i = true := by
    intro a b hab hh
    unfold ownT at hh ⊢
    cases hq : a (i : Int) with
    | none => rw [hq] at hh; cases hh
    | some t =>
      rw [hq] at hh
      have e : t.o = o' := by simpa using hh
      rw [hab _ t (by omega) hq]
      simp [e]
  cases h1 : ownT ty o' i
  · cases h2 : ownT ty' o' i
    · rfl
    · rw [key (fun f t ht hf => (h.oth f t ht).1 hf) h2] at h1
      cases h1
  · exact key (fun f t ht hf => (h.oth f t ht).2 hf) h1
theorem tb_np {e : P.En} (h : e.p = false) : P.tb e = false := by unfold P.tb; rw [h]; simp
theorem vE_np {e : P.En} (h : e.p = false) (v : Nat) (pg : Int) : vE e v pg = (0, 0) := by unfold vE; rw [h]; rfl
section
variable {s : Sm} {ty : Int → Option Kd} {x : Int}
theorem Inv.und_vw (h : Inv s ty x) {g : Int} {t : Kd} (hg : ty g = some t) {j o pg : Int} (h0 : 0 ≤ j) (h1 : j < 16) (hold : P.tb (pl s.xs g j) = false) (hu : Und t j o pg) {q : Int × Int} (hv : Vw s ty o pg q) : q = vE (pl s.xs g j) t.l pg := by
  obtain ⟨a, b⟩ := h.und_on hg h0 h1 hu
  exact h.vw_uniq hv ⟨g, t.l, ⟨a, by rw [b]; exact hold⟩, by rw [b]⟩
theorem Inv.neg (h : Inv s ty x) {f : Int} {t : Kd} (hf : ty f = some t) : f ≠ -1 := by have := h.tin f t hf; omega
/-- Which pages are meant by a call. -/
def Mt (o pg : Int) (lo : Nat) (o' pg' : Int) : Prop := o' = o ∧ pg' / P.sp lo = pg / P.sp lo
instance (o pg : Int) (lo : Nat) (o' pg' : Int) : Decidable (Mt o pg lo o' pg') := by unfold Mt; infer_instance
theorem mt_und {o pg : Int} {lo : Nat} (h : lo ≤ 3) (o' pg' : Int) : Und ⟨o, lo, pg / wi lo⟩ (dg pg lo) o' pg' ↔ Mt o pg lo o' pg' := by
  unfold Und Mt
  simp only
  rw [← un_dg h]
theorem Inv.put_leaf (h : Inv s ty x) {o pg fr : Int} {lo : Nat} {e : P.En} (he : P.rt e = true) (hte : P.tb e = false) (hle : e.p = true → (lo = 0 ∧ e.l = false) ∨ (lo = 1 ∧ e.l = true ∧ e.f % 16 = 0))
    (hon : On ty o pg fr lo) {x' : Int} (hx : ∀ f t, ty f = some t → t.l < 3 → f ≠ x' → (f = fr → e.p = true) ∧ (f ≠ fr → f ≠ x)) (hnt : P.tb (pl s.xs fr (dg pg lo)) = false) :
    Inv (lay s (16 * fr + dg pg lo) e) ty x' ∧ Stp o s ty (lay s (16 * fr + dg pg lo) e) ty ∧ (∀ f i, 0 ≤ i → i < 16 → pl (lay s (16 * fr + dg pg lo) e).xs f i = if f = fr ∧ i = dg pg lo then e else pl s.xs f i) ∧ ∀ o' pg' q, P.btw pg' 0 65535 = true → Vw s ty o' pg' q → Vw (lay s (16 * fr + dg pg lo) e) ty o' pg' (if Mt o pg lo o' pg' then vE e lo pg' else q) := by
  have hd := dg_in pg lo
  have h3 := (h.tlv _ _ hon).1
  obtain ⟨a, b, c⟩ := h.leaf hon hd.1 hd.2 hnt he hte hle hx
  refine ⟨a, leafStp hon b, b, fun o' pg' q hb' hv => ?_⟩
  have := c o' pg' q hb' hv
  simp only at this h3
  by_cases hm : Mt o pg lo o' pg'
  · rw [if_pos ((mt_und h3 o' pg').2 hm)] at this
    rw [if_pos hm]
    exact this
  · rw [if_neg (fun hh => hm ((mt_und h3 o' pg').1 hh))] at this
    rw [if_neg hm]
    exact this
theorem Inv.putting {o pg : Int} {lo : Nat} {e : P.En} (hb : P.btw pg 0 65535 = true) (he : P.rt e = true) (hte : P.tb e = false) (hpe : e.p = true) (hle : (lo = 0 ∧ e.l = false) ∨ (lo = 1 ∧ e.l = true ∧ e.f % 16 = 0)) (ho : 1 ≤ o ∧ o ≤ 16) :
    ∀ (v : Nat) (fr : Int) (s : Sm) (ty : Int → Option Kd) (x : Int), Inv s ty x → On ty o pg fr v → lo ≤ v → (∀ f t, ty f = some t → t.l < 3 → f ≠ fr → f ≠ x) →
    (pl s.xs (endF s.xs pg lo v fr).1 (dg pg (endF s.xs pg lo v fr).2)).p = false → (endF s.xs pg lo v fr).2 ≤ lo + O.cK s.ds 0 →
    ∃ ty', Inv (putS o pg lo e v fr s) ty' (-1) ∧ Stp o s ty (putS o pg lo e v fr s) ty' ∧ O.cK (putS o pg lo e v fr s).ds 0 + (endF s.xs pg lo v fr).2 = lo + O.cK s.ds 0 ∧ nT ty' o s.ds.length + lo = nT ty o s.ds.length + (endF s.xs pg lo v fr).2 ∧ (∃ f, On ty' o pg f lo) ∧
      ∀ o' pg' q, P.btw pg' 0 65535 = true → Vw s ty o' pg' q → Vw (putS o pg lo e v fr s) ty' o' pg' (if Mt o pg lo o' pg' then vE e lo pg' else q) := by
  have leaf : ∀ (fr : Int) (s : Sm) (ty : Int → Option Kd) (x : Int), Inv s ty x → On ty o pg fr lo → (∀ f t, ty f = some t → t.l < 3 → f ≠ fr → f ≠ x) → (pl s.xs fr (dg pg lo)).p = false →
      ∃ ty', Inv (lay s (P.at' fr pg lo) e) ty' (-1) ∧ Stp o s ty (lay s (P.at' fr pg lo) e) ty' ∧ O.cK (lay s (P.at' fr pg lo) e).ds 0 + lo = lo + O.cK s.ds 0 ∧ nT ty' o s.ds.length + lo = nT ty o s.ds.length + lo ∧ (∃ f, On ty' o pg f lo) ∧
        ∀ o' pg' q, P.btw pg' 0 65535 = true → Vw s ty o' pg' q → Vw (lay s (P.at' fr pg lo) e) ty' o' pg' (if Mt o pg lo o' pg' then vE e lo pg' else q) := by
    intro fr s ty x h hon hx hnp
    have h3 := (h.tlv _ _ hon).1
    simp only at h3
    rw [at_dg hb h3 (h.low hon)]
    obtain ⟨a, b, -, c⟩ := h.put_leaf he hte (fun _ => hle) hon (x' := -1) (fun f t hf hl _ => ⟨fun _ => hpe, fun e => hx f t hf hl e⟩) (tb_np hnp)
    exact ⟨ty, a, b, Nat.add_comm _ _, rfl, ⟨fr, hon⟩, c⟩
  intro v
  induction v with
  | zero =>
    intro fr s ty x h hon hl hx hnp hfr
    obtain rfl : lo = 0 := by omega
    exact leaf fr s ty x h hon hx hnp
  | succ v ih =>
    intro fr s ty x h hon hl hx hnp hfr
    by_cases hlv : lo = v + 1
    · have hS : putS o pg lo e (v + 1) fr s = lay s (P.at' fr pg lo) e := by
        unfold putS
        rw [if_pos hlv, hlv]
      have hE : endF s.xs pg lo (v + 1) fr = (fr, lo) := by
        unfold endF
        rw [if_neg (by simp [hlv]), hlv]
      rw [hE] at hnp ⊢
      rw [hS]
      exact leaf fr s ty x h (hlv ▸ hon) hx hnp
    · have h3 := (h.tlv _ _ hon).1
      simp only at h3
      have hd := dg_in pg (v + 1)
      have hen := en_pl (xs := s.xs) hb h3 (h.low hon)
      have hlt : lo < v + 1 := by omega
      have hS : ∀ s1, mkS s o pg fr (v + 1) = s1 → P.tb (en s1.xs pg fr (v + 1)) = true → putS o pg lo e (v + 1) fr s = putS o pg lo e v (en s1.xs pg fr (v + 1)).f s1 := by
        rintro s1 rfl ht
        conv => lhs; unfold putS
        rw [if_neg hlv, if_pos (by simp [hlt, ht])]
      cases hp : (pl s.xs fr (dg pg (v + 1))).p
      · have hE : endF s.xs pg lo (v + 1) fr = (fr, v + 1) := by
          unfold endF
          rw [if_neg]
          rw [hen, tb_np hp]
          simp
        rw [hE] at hnp hfr ⊢
        simp only at hnp hfr ⊢
        have hM : mkS s o pg fr (v + 1) = hangS s o (16 * fr + dg pg (v + 1)) none16 := by
          unfold mkS
          rw [hen, hp, if_neg (by decide), at_dg hb h3 (h.low hon)]
        obtain ⟨b1, b2, b3, b4, b5, b6, b7, b8, b9⟩ := h.hang hon hd.1 hd.2 (tb_np hp) (by simp) ho (by omega) none16 (fun i _ => ⟨rt_zd', tb_zd, fun hh => by cases hh⟩) (x' := newF s o) (fun f t hf hl _ e => hx f t hf hl e) (.inl rfl)
        simp only at b1 b2 b3 b4 b5 b6 b7 b8 b9
        have hst := hangStp (tn := ⟨o, v + 1 - 1, 16 * (pg / wi (v + 1)) + dg pg (v + 1)⟩) hon b1 b2 b3 b6 b7 rfl b8
        have hen1 : en (hangS s o (16 * fr + dg pg (v + 1)) none16).xs pg fr (v + 1) = ⟨true, 0, false, newF s o⟩ := by
          rw [en_pl hb h3 (h.low hon), b8 _ _ hd.1 hd.2, if_pos ⟨rfl, rfl⟩]
        have htop := h.top
        have hrt : P.rt ⟨true, 0, false, newF s o⟩ = true := by simp [P.rt, P.btw]; omega
        have htb : P.tb (en (hangS s o (16 * fr + dg pg (v + 1)) none16).xs pg fr (v + 1)) = true := by rw [hen1]; unfold P.tb; rw [hrt]; rfl
        rw [hS _ hM htb, hen1]
        simp only
        have hon1 : On (upd ty (newF s o) (some ⟨o, v + 1 - 1, 16 * (pg / wi (v + 1)) + dg pg (v + 1)⟩)) o pg (newF s o) v := by
          unfold On upd
          rw [if_pos rfl, down_one (l := v) (by omega)]
          rfl
        have hfrn : fr ≠ newF s o := by
          intro e
          unfold On at hon
          rw [e, b1] at hon
          cases hon
        have hnone : ∀ i, 0 ≤ i → i < 16 → pl (hangS s o (16 * fr + dg pg (v + 1)) none16).xs (newF s o) i = P.zd := fun i a b => by
          rw [b8 _ _ a b, if_neg (fun e => hfrn e.1.symm), if_pos rfl]
          rfl
        have hE1 : endF (hangS s o (16 * fr + dg pg (v + 1)) none16).xs pg lo v (newF s o) = (newF s o, v) := by
          cases v with
          | zero => rfl
          | succ v =>
            have hd' := dg_in pg (v + 1)
            unfold endF
            rw [if_neg]
            rw [en_pl hb (by omega) ⟨by omega, by omega⟩, hnone _ hd'.1 hd'.2, tb_zd]
            simp
        obtain ⟨ty', c1, c2, c3, c4, c5, c6⟩ := ih (newF s o) _ _ _ b4 hon1 (by omega) (fun f t _ _ e => e) (by
          rw [hE1]
          have hd' := dg_in pg v
          rw [hnone _ hd'.1 hd'.2]
          rfl) (by rw [hE1]; simp only; omega)
        rw [hE1] at c3 c4
        simp only at c3 c4
        refine ⟨ty', c1, hst.trans c2, by omega, ?_, c5, fun o' pg' q hb' hv => ?_⟩
        · have := nT_upd (t := ⟨o, v + 1 - 1, 16 * (pg / wi (v + 1)) + dg pg (v + 1)⟩) b1 b2 rfl b3
          simp only at this
          rw [b6] at c4
          simp only [List.length_set] at c4
          omega
        · have hv1 := b9 o' pg' q hb' hv
          refine c6 o' pg' q hb' ?_
          by_cases hu : Und ⟨o, v + 1, pg / wi (v + 1)⟩ (dg pg (v + 1)) o' pg'
          · rw [if_pos hu] at hv1
            rw [h.und_vw hon hd.1 hd.2 (tb_np hp) hu hv, vE_np hp]
            exact hv1
          · rw [if_neg hu] at hv1
            exact hv1
      · have ht : P.tb (pl s.xs fr (dg pg (v + 1))) = true := by
          cases ht : P.tb (pl s.xs fr (dg pg (v + 1)))
          · have hE : endF s.xs pg lo (v + 1) fr = (fr, v + 1) := by
              unfold endF
              rw [if_neg]
              rw [hen, ht]
              simp
            rw [hE] at hnp
            simp only at hnp
            rw [hp] at hnp
            cases hnp
          · rfl
        have hM : mkS s o pg fr (v + 1) = s := by
          unfold mkS
          rw [hen, hp, if_pos rfl]
        have hE : endF s.xs pg lo (v + 1) fr = endF s.xs pg lo v (pl s.xs fr (dg pg (v + 1))).f := by
          conv => lhs; unfold endF
          rw [hen, if_pos (by simp [hlt, ht])]
        rw [hS s hM (by rw [hen]; exact ht), hen]
        rw [hE] at hnp hfr ⊢
        exact ih _ s ty (-1) (h.noex fun f t hf hl _ e => by
          by_cases e2 : f = fr
          · rw [e2]
            exact ⟨_, hd.1, hd.2, hp⟩
          · exact absurd e (hx f t hf hl e2)) (h.step hon ht) (by omega) (fun f t hf _ _ => h.neg hf) hnp hfr
end
end Go.Proofs.YtpfmmlbakbhklaaGreatDoor
namespace Go.Proofs.YtpfmmlbakbhklaaGreatDoor
open Go.RowKit
section
variable {s : Sm} {ty : Int → Option Kd} {x : Int}
theorem Inv.fd_lf (h : Inv s ty x) {o pg root : Int} (hr : ty root = some ⟨o, 3, 0⟩) (hb : P.btw pg 0 65535 = true) (hp : (fdE s root pg).p = true) :
    ((fd s root pg).2 = 0 ∧ (fdE s root pg).l = false) ∨ ((fd s root pg).2 = 1 ∧ (fdE s root pg).l = true ∧ (fdE s root pg).f % 16 = 0) := by
  obtain ⟨⟨a, b⟩, c⟩ := h.ed hr hb
  have e := h.fdE_pl hr hb
  rw [e] at hp ⊢
  have hd := dg_in pg (fd s root pg).2
  exact h.lf _ _ _ a hd.1 hd.2 hp b
theorem Inv.fd_of (h : Inv s ty x) {o pg root f : Int} {v : Nat} (hr : ty root = some ⟨o, 3, 0⟩) (hb : P.btw pg 0 65535 = true) (he : Ed s ty o pg f v) : fd s root pg = (f, v) := by
  obtain ⟨a, b⟩ := h.ed_uniq (h.ed hr hb).1 he
  rw [← a, ← b]
theorem part_ok {e : P.En} (h : P.rt e = true) (hr : 0 < e.r) (hf : e.f % 16 = 0) {i : Nat} (hi : i < 16) : P.rt (part e i) = true ∧ P.tb (part e i) = false := by
  have hh := P.rt_in h
  have h1 : P.rt (part e i) = true := by
    have a1 : P.btw e.r 0 7 = true := P.btw_yes.2 ⟨by omega, by omega⟩
    have a2 : P.btw (e.f + i) 0 4095 = true := P.btw_yes.2 ⟨by omega, by omega⟩
    unfold P.rt part
    simp [a1, a2]
  refine ⟨h1, ?_⟩
  unfold P.tb
  have : ((part e i).r == 0) = false := by simp [part]; omega
  rw [this]
  simp
/-- A large entry is split. -/
theorem Inv.alone (h : Inv s ty (-1)) {o pg root : Int} (hr : ty root = some ⟨o, 3, 0⟩) (hb : P.btw pg 0 65535 = true) (ho : 1 ≤ o ∧ o ≤ 16) (hp : (fdE s root pg).p = true) (hf : (fdE s root pg).l = true → 0 < O.cK s.ds 0) :
    alE s o root pg = 0 ∧ ∃ ty', Inv (alS s o root pg) ty' (-1) ∧ Stp o s ty (alS s o root pg) ty' ∧ O.cK (alS s o root pg).ds 0 + (if (fdE s root pg).l = true then 1 else 0) = O.cK s.ds 0 ∧
      (fd (alS s o root pg) root pg).2 = 0 ∧ (fdE (alS s o root pg) root pg).l = false ∧ (fdE (alS s o root pg) root pg).p = true ∧
      (∀ o' pg' root', P.btw pg' 0 65535 = true → ty root' = some ⟨o', 3, 0⟩ → (fdE (alS s o root pg) root' pg').l = true → (fdE s root' pg').l = true) ∧
      ∀ o' pg' q, P.btw pg' 0 65535 = true → Vw s ty o' pg' q → Vw (alS s o root pg) ty' o' pg' q := by
  have hlf := h.fd_lf hr hb hp
  cases hl : (fdE s root pg).l
  · rw [hl] at hlf
    have hS : alS s o root pg = s := by unfold alS; rw [hl, if_neg (by decide)]
    have hE : alE s o root pg = 0 := by unfold alE; rw [hl, if_neg (by decide)]
    rw [hS]
    refine ⟨hE, ty, h, Stp.refl .., rfl, ?_, hl, hp, fun _ _ _ _ _ e => e, fun _ _ _ _ hv => hv⟩
    rcases hlf with hlf | hlf
    · exact hlf.1
    · cases hlf.2.1
  · rw [hl] at hlf
    have hlf : (fd s root pg).2 = 1 ∧ (fdE s root pg).f % 16 = 0 := by
      rcases hlf with hlf | hlf
      · cases hlf.2
      · exact ⟨hlf.1, hlf.2.2⟩
    obtain ⟨⟨hon, hnt⟩, h3⟩ := h.ed hr hb
    have hpl := h.fdE_pl hr hb
    have hfo := fun {o' pg' root' f : Int} {v : Nat} {ty' : Int → Option Kd} {s' : Sm} (hi : Inv s' ty' (-1)) (hr' : ty' root' = some ⟨o', 3, 0⟩) (hb' : P.btw pg' 0 65535 = true) (he : Ed s' ty' o' pg' f v) => hi.fd_of hr' hb' he
    have hd := dg_in pg (fd s root pg).2
    have hS : alS s o root pg = hangS s o (16 * (fd s root pg).1 + dg pg (fd s root pg).2) (part (fdE s root pg)) := by
      unfold alS
      rw [hl, if_pos rfl, at_dg hb h3 (h.low hon)]
    have hE : alE s o root pg = newE s o := by unfold alE; rw [hl, if_pos rfl]
    have hrt : P.rt (fdE s root pg) = true := by rw [hpl]; exact pl_rt _ _ _
    have hri := P.rt_in hrt
    have hpos : 0 < (fdE s root pg).r := tb_no hrt hp (by rw [hpl]; exact hnt)
    rw [hE, hS]
    have hfr := hf hl
    clear hf hS hE
    rw [hlf.1] at hon hnt hd hpl ⊢
    obtain ⟨b1, b2, b3, b4, b5, b6, b7, b8, b9⟩ := h.hang hon hd.1 hd.2 hnt (by simp) ho hfr (part (fdE s root pg)) (fun i hi => ⟨(part_ok hrt hpos hlf.2 hi).1, (part_ok hrt hpos hlf.2 hi).2, fun _ => .inl ⟨rfl, rfl⟩⟩) (x' := -1) (fun f t hf hl _ _ => h.neg hf) (.inr rfl)
    simp only at b1 b2 b3 b4 b5 b6 b7 b8 b9
    have hst := hangStp (tn := ⟨o, 1 - 1, 16 * (pg / wi 1) + dg pg 1⟩) hon b1 b2 b3 b6 b7 rfl b8
    have hgn : (fd s root pg).1 ≠ newF s o := by
      intro e
      unfold On at hon
      rw [e, b1] at hon
      cases hon
    have hd0 := dg_in pg 0
    have hon1 : On (upd ty (newF s o) (some ⟨o, 1 - 1, 16 * (pg / wi 1) + dg pg 1⟩)) o pg (newF s o) 0 := by
      unfold On upd
      rw [if_pos rfl, down_one (l := 0) (by omega)]
    have hent : pl (hangS s o (16 * (fd s root pg).1 + dg pg 1) (part (fdE s root pg))).xs (newF s o) (dg pg 0) = part (fdE s root pg) (dg pg 0).toNat := by
      rw [b8 _ _ hd0.1 hd0.2, if_neg (fun e => hgn e.1.symm), if_pos rfl]
    have hroot := hst.root root _ hr rfl
    have hfd := b4.fd_of hroot hb (⟨hon1, by rw [hent]; exact (part_ok hrt hpos hlf.2 (by omega)).2⟩ : Ed _ _ o pg (newF s o) 0)
    have hfE : fdE (hangS s o (16 * (fd s root pg).1 + dg pg 1) (part (fdE s root pg))) root pg = part (fdE s root pg) (dg pg 0).toNat := by
      rw [b4.fdE_pl hroot hb, hfd]
      exact hent
    have hcg : fd s root pg = ((fd s root pg).1, 1) := by rw [← hlf.1]
    refine ⟨(free_new h.rt hfr o ho).1, _, b4, hst, by rw [if_pos rfl]; exact b5, by rw [hfd], by rw [hfE]; rfl, by rw [hfE]; rfl, fun o' pg' root' hb' hr' hll => ?_, fun o' pg' q hb' hv => ?_⟩
    · have hroot' := hst.root root' _ hr' rfl
      obtain ⟨⟨c1, c2⟩, c3⟩ := h.ed hr' hb'
      have hd' := dg_in pg' (fd s root' pg').2
      by_cases hu : (fd s root' pg').1 = (fd s root pg).1 ∧ dg pg' (fd s root' pg').2 = dg pg 1
      · rw [h.fdE_pl hr' hb', hu.1, hu.2, ← hpl]
        exact hl
      · have hnn : (fd s root' pg').1 ≠ newF s o := by
          intro e
          unfold On at c1
          rw [e, b1] at c1
          cases c1
        have hplk := b8 (fd s root' pg').1 _ hd'.1 hd'.2
        rw [if_neg hu, if_neg hnn] at hplk
        have hon' : On (upd ty (newF s o) (some ⟨o, 1 - 1, 16 * (pg / wi 1) + dg pg 1⟩)) o' pg' (fd s root' pg').1 (fd s root' pg').2 := by
          unfold On upd
          rw [if_neg hnn]
          exact c1
        have hfd' := b4.fd_of hroot' hb' (⟨hon', by rw [hplk]; exact c2⟩ : Ed _ _ o' pg' _ _)
        rw [b4.fdE_pl hroot' hb', hfd', hplk, ← h.fdE_pl hr' hb'] at hll
        exact hll
    · have hv1 := b9 o' pg' q hb' hv
      by_cases hu : Und ⟨o, 1, pg / wi 1⟩ (dg pg 1) o' pg'
      · rw [if_pos hu] at hv1
        have hq := h.und_vw hon hd.1 hd.2 hnt hu hv
        rw [← hpl] at hq
        have hdp := dg_in pg' 0
        have e2 : vE (part (fdE s root pg) (dg pg' (1 - 1)).toNat) (1 - 1) pg' = q := by
          rw [hq]
          unfold vE
          rw [hp, if_pos rfl, if_pos (show (part (fdE s root pg) (dg pg' (1 - 1)).toNat).p = true from rfl)]
          unfold part
          simp only
          have e3 : dg pg' (1 - 1) = pg' % 16 := by unfold dg; rw [show (1 - 1 : Nat) = 0 from rfl, sp_0]; omega
          rw [e3, show (((1 - 1 : Nat)) : Int) = ((0 : Nat) : Int) from rfl, sp_0, sp_1, Int.toNat_of_nonneg (by omega), show pg' % 1 = 0 by omega, Int.add_zero]
        rw [e2] at hv1
        exact hv1
      · rw [if_neg hu] at hv1
        exact hv1
/-- What is mapped, is taken away. -/
theorem Inv.unmap (h : Inv s ty (-1)) {o pg root : Int} (hr : ty root = some ⟨o, 3, 0⟩) (hb : P.btw pg 0 65535 = true) (ho : 1 ≤ o ∧ o ≤ 16) (hq : qE s root pg = 0) (hf : (fdE s root pg).l = true → 0 < O.cK s.ds 0) :
    unE s o root pg = 0 ∧ ∃ ty', Inv (unS s o root pg) ty' (-1) ∧ Stp o s ty (unS s o root pg) ty' ∧ O.cK (unS s o root pg).ds 0 + (if (fdE s root pg).l = true then 1 else 0) = O.cK s.ds 0 ∧
      (∀ q, Vw s ty o pg q → unF s o root pg = q.1) ∧
      ∀ o' pg' q, P.btw pg' 0 65535 = true → Vw s ty o' pg' q → Vw (unS s o root pg) ty' o' pg' (if o' = o ∧ pg' = pg then (0, 0) else q) := by
  have hp : (fdE s root pg).p = true := by
    unfold qE at hq
    rw [hb, if_neg (fun e => Bool.noConfusion e)] at hq
    cases hpp : (fdE s root pg).p
    · rw [hpp, if_pos rfl] at hq; omega
    · rfl
  obtain ⟨a1, ty1, a2, a3, a4, a5, a6, a7, -, a8⟩ := h.alone hr hb ho hp hf
  have hE : unE s o root pg = 0 := by unfold unE; rw [if_pos hq, a1]
  have hr1 := a3.root root _ hr rfl
  obtain ⟨⟨hon, hnt⟩, -⟩ := a2.ed hr1 hb
  have hpl := a2.fdE_pl hr1 hb
  rw [a5] at hon hnt hpl
  have hS : unS s o root pg = thinS pg (wayF (lay (alS s o root pg) (16 * (fd (alS s o root pg) root pg).1 + dg pg 0) P.zd).xs pg 0 3 root).reverse (lay (alS s o root pg) (16 * (fd (alS s o root pg) root pg).1 + dg pg 0) P.zd) := by
    unfold unS
    rw [if_pos hE]
    unfold unA
    have : P.at' (fd (alS s o root pg) root pg).1 pg ((fd (alS s o root pg) root pg).2 : Nat) = 16 * (fd (alS s o root pg) root pg).1 + dg pg 0 := by
      rw [a5]
      exact at_dg hb (by omega) (a2.low hon)
    rw [this]
  have hF : unF s o root pg = (fdE (alS s o root pg) root pg).f := by unfold unF; rw [if_pos hE]
  rw [hS, hF]
  generalize alS s o root pg = s1 at *
  obtain ⟨b1, b2, b3, b4⟩ := a2.put_leaf (e := P.zd) (lo := 0) rt_zd' tb_zd (fun hh => by cases hh) hon (x' := (fd s1 root pg).1) (fun f t hf hl e => ⟨fun e2 => absurd e2 e, fun _ => a2.neg hf⟩) hnt
  generalize hs2 : lay s1 (16 * (fd s1 root pg).1 + dg pg 0) P.zd = s2 at *
  have hr2 := b2.root root _ hr1 rfl
  have hd0 := dg_in pg 0
  have hfd2 := b1.fd_of hr2 hb (⟨hon, by rw [b3 _ _ hd0.1 hd0.2, if_pos ⟨rfl, rfl⟩]; exact tb_zd⟩ : Ed _ _ o pg (fd s1 root pg).1 0)
  have hup := b1.way_up hb 3 root [] (⟨root_on hr2 hb, rfl⟩ : Up s2 ty1 o pg [(root, 3)])
  rw [List.append_nil] at hup
  obtain ⟨l, hl⟩ := way_end s2.xs pg 0 3 root
  have hl2 : (wayF s2.xs pg 0 3 root).reverse = ((fd s1 root pg).1, 0) :: l.reverse := by
    rw [hl, List.reverse_append, List.reverse_singleton, List.singleton_append, show endF s2.xs pg 0 3 root = fd s2 root pg from rfl, hfd2]
  rw [hl2] at hup ⊢
  obtain ⟨ty', c1, c2, c3, c4⟩ := Inv.thin hb _ _ _ _ _ b1 hup (fun f t _ _ e => e)
  have hds : s2.ds = s1.ds := by rw [← hs2]; rfl
  refine ⟨hE, ty', c1, (a3.trans b2).trans c2, ?_, fun q hv => ?_, fun o' pg' q hb' hv => ?_⟩
  · rw [c3, hds]
    exact a4
  · have := a2.vw_uniq (a8 o pg q hb hv) (a2.vw_has hr1 hb)
    rw [this]
    unfold vE
    rw [a7, if_pos rfl, a5, sp_0]
    simp only
    omega
  · have hv2 := c4 _ _ _ hb' (b4 o' pg' q hb' (a8 o' pg' q hb' hv))
    have e : Mt o pg 0 o' pg' ↔ o' = o ∧ pg' = pg := by
      unfold Mt
      rw [sp_0]
      constructor
      · rintro ⟨x, y⟩; exact ⟨x, by omega⟩
      · rintro ⟨x, y⟩; exact ⟨x, by omega⟩
    by_cases hm : o' = o ∧ pg' = pg
    · rw [if_pos (e.2 hm), vE_np rfl] at hv2
      rw [if_pos hm]
      exact hv2
    · rw [if_neg (fun hh => hm (e.1 hh))] at hv2
      rw [if_neg hm]
      exact hv2
/-- What is mapped, gets other rights. -/
theorem Inv.protect (h : Inv s ty (-1)) {o pg root r : Int} (hr : ty root = some ⟨o, 3, 0⟩) (hb : P.btw pg 0 65535 = true) (ho : 1 ≤ o ∧ o ≤ 16) (h17 : P.btw r 1 7 = true) (hq : qE s root pg = 0) (hf : (fdE s root pg).l = true → 0 < O.cK s.ds 0) :
    prE s o root pg r = 0 ∧ ∃ ty', Inv (prS s o root pg r) ty' (-1) ∧ Stp o s ty (prS s o root pg r) ty' ∧ O.cK s.ds 0 ≤ O.cK (prS s o root pg r).ds 0 + 1 ∧
      ∀ o' pg' q, P.btw pg' 0 65535 = true → Vw s ty o' pg' q → Vw (prS s o root pg r) ty' o' pg' (if o' = o ∧ pg' = pg then (q.1, r) else q) := by
  have hp : (fdE s root pg).p = true := by
    unfold qE at hq
    rw [hb, if_neg (fun e => Bool.noConfusion e)] at hq
    cases hpp : (fdE s root pg).p
    · rw [hpp, if_pos rfl] at hq; omega
    · rfl
  have h17' := P.btw_yes.1 h17
  obtain ⟨a1, ty1, a2, a3, a4, a5, a6, a7, -, a8⟩ := h.alone hr hb ho hp hf
  have hE : prE s o root pg r = 0 := by
    unfold prE
    rw [hb, if_neg (fun e => Bool.noConfusion e), h17, if_neg (fun e => Bool.noConfusion e), if_pos hq, a1]
    split <;> rfl
  refine ⟨hE, ?_⟩
  by_cases hs : (fdE s root pg).r = r
  · have hS : prS s o root pg r = s := by unfold prS; rw [if_pos hE, if_pos hs]
    rw [hS]
    refine ⟨ty, h, Stp.refl .., by omega, fun o' pg' q hb' hv => ?_⟩
    by_cases hm : o' = o ∧ pg' = pg
    · rw [if_pos hm]
      obtain ⟨rfl, rfl⟩ := hm
      have := h.vw_uniq hv (h.vw_has hr hb)
      have e : q.2 = r := by
        rw [this]
        unfold vE
        rw [hp, if_pos rfl]
        exact hs
      rw [← e]
      exact hv
    · rw [if_neg hm]
      exact hv
  · have hr1 := a3.root root _ hr rfl
    obtain ⟨⟨hon, hnt⟩, -⟩ := a2.ed hr1 hb
    have hpl := a2.fdE_pl hr1 hb
    rw [a5] at hon hnt hpl
    have hS : prS s o root pg r = lay (alS s o root pg) (16 * (fd (alS s o root pg) root pg).1 + dg pg 0) { fdE (alS s o root pg) root pg with r := r } := by
      unfold prS
      rw [if_pos hE, if_neg hs]
      unfold prA
      have : P.at' (fd (alS s o root pg) root pg).1 pg ((fd (alS s o root pg) root pg).2 : Nat) = 16 * (fd (alS s o root pg) root pg).1 + dg pg 0 := by
        rw [a5]
        exact at_dg hb (by omega) (a2.low hon)
      rw [this]
    rw [hS]
    generalize alS s o root pg = s1 at *
    have hi := P.rt_in (show P.rt (fdE s1 root pg) = true by rw [hpl]; exact pl_rt _ _ _)
    have hw := a2.vw_has hr1 hb
    rw [a5] at hw
    generalize fdE s1 root pg = e at *
    obtain ⟨ep, er, el, ef⟩ := e
    simp only at a6 a7 hi
    subst a6 a7
    have ert : P.rt ⟨true, r, false, ef⟩ = true := by
      simp [P.rt, P.btw]
      omega
    have etb : P.tb ⟨true, r, false, ef⟩ = false := by
      unfold P.tb
      have : (r == 0) = false := by simp; omega
      simp [this]
    obtain ⟨b1, b2, -, b4⟩ := a2.put_leaf (e := ⟨true, r, false, ef⟩) (lo := 0) ert etb (fun _ => .inl ⟨rfl, rfl⟩) hon (x' := -1) (fun f t hf hl e => ⟨fun _ => rfl, fun _ => a2.neg hf⟩) hnt
    refine ⟨ty1, b1, a3.trans b2, ?_, fun o' pg' q hb' hv => ?_⟩
    · show _ ≤ O.cK s1.ds 0 + 1
      split at a4 <;> omega
    · have hv2 := b4 o' pg' q hb' (a8 o' pg' q hb' hv)
      have e : Mt o pg 0 o' pg' ↔ o' = o ∧ pg' = pg := by
        unfold Mt
        rw [sp_0]
        constructor
        · rintro ⟨x, y⟩; exact ⟨x, by omega⟩
        · rintro ⟨x, y⟩; exact ⟨x, by omega⟩
      by_cases hm : o' = o ∧ pg' = pg
      · rw [if_pos (e.2 hm)] at hv2
        rw [if_pos hm]
        obtain ⟨rfl, rfl⟩ := hm
        have := a2.vw_uniq (a8 o' pg' q hb' hv) hw
        rw [this]
        exact hv2
      · rw [if_neg (fun hh => hm (e.1 hh))] at hv2
        rw [if_neg hm]
        exact hv2
end
end Go.Proofs.YtpfmmlbakbhklaaGreatDoor
