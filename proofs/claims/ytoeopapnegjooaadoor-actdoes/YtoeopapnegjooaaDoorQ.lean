/- Acts that do not meet: what they tell, and the words that they leave, are the same in both orders. Of no program; no conditions. -/
import Derived.Test.YtoeopapnegjooaaDoorE
namespace Go.Proofs.YtoeopapnegjooaaDoor

/-- What an act makes of its word. -/
def nv (x : Ac) (v : Int) : Int := if x.kd = 2 then x.a else if x.kd = 3 then (if v = x.a then x.b else v) else if x.kd = 4 then add64 v x.a else v
/-- What an act tells of its word. -/
def rv (x : Ac) (th : Bool) (v : Int) : Re :=
  if x.kd = 1 then ⟨if th = true then v else 0, false, if th = true then 0 else 2⟩
  else if x.kd = 2 then ⟨0, false, if th = true then 0 else 2⟩
  else if x.kd = 3 then ⟨0, th && (v == x.a), if th = true then 0 else 2⟩
  else if x.kd = 4 then ⟨if th = true then v else 0, false, if th = true then 0 else 2⟩
  else ⟨0, false, 1⟩
def wAt (s : St) (a : Int) : Int := s.xs.getD a.toNat 0
theorem doR_rv (s : St) (x : Ac) : doR s x = rv x (there s x.ad) (wAt s x.ad) := by
  unfold doR rv loadV errV casV wAt
  rfl
theorem rv_out (x : Ac) (u v : Int) : rv x false u = rv x false v := by unfold rv; simp
theorem rv_kind {x : Ac} (h : kindB x = false) (t : Bool) (u v : Int) : rv x t u = rv x t v := by
  simp [kindB, laysB] at h
  unfold rv
  simp [h]
theorem nv_lays {x : Ac} (h : laysB x = false) (v : Int) : nv x v = v := by
  simp [laysB] at h
  unfold nv
  simp [h]
theorem set_self (xs : List Int) (i : Nat) (h : i < xs.length) : xs.set i (xs.getD i 0) = xs := by
  apply List.ext_getElem?
  intro j
  rw [List.getElem?_set]
  by_cases e : i = j
  · subst e; simp [h]
  · simp [e]
theorem doT_xs (s : St) (x : Ac) : (doT s x).xs = if there s x.ad = true then s.xs.set x.ad.toNat (nv x (wAt s x.ad)) else s.xs := by
  unfold doT loadT storeT casT addT storeT loadV nv wAt
  by_cases ht : there s x.ad = true
  · have hi : x.ad.toNat < s.xs.length := by have := inB_yes.1 (show inB s.xs.length x.ad = true from ht); omega
    by_cases h1 : x.kd = 1
    · have h2 : ¬ x.kd = 2 := by omega
      have h3 : ¬ x.kd = 3 := by omega
      have h4 : ¬ x.kd = 4 := by omega
      simp only [if_pos ht, if_pos h1, if_neg h2, if_neg h3, if_neg h4, set_self _ _ hi]
    · by_cases h2 : x.kd = 2
      · simp only [if_pos ht, if_neg h1, if_pos h2]
      · by_cases h3 : x.kd = 3
        · simp only [if_pos ht, if_neg h1, if_neg h2, if_pos h3]
          by_cases hv : s.xs.getD x.ad.toNat 0 = x.a
          · simp only [if_pos hv]
          · simp only [if_neg hv, set_self _ _ hi]
        · by_cases h4 : x.kd = 4
          · simp only [if_pos ht, if_neg h1, if_neg h2, if_neg h3, if_pos h4]
          · simp only [if_pos ht, if_neg h1, if_neg h2, if_neg h3, if_neg h4, set_self _ _ hi]
  · by_cases h1 : x.kd = 1
    · simp only [if_neg ht, if_pos h1]
    · by_cases h2 : x.kd = 2
      · simp only [if_neg ht, if_neg h1, if_pos h2]
      · by_cases h3 : x.kd = 3
        · simp only [if_neg ht, if_neg h1, if_neg h2, if_pos h3]
        · by_cases h4 : x.kd = 4
          · simp only [if_neg ht, if_neg h1, if_neg h2, if_neg h3, if_pos h4]
          · simp only [if_neg h1, if_neg h2, if_neg h3, if_neg h4, if_neg ht]
theorem doT_len (s : St) (x : Ac) : (doT s x).xs.length = s.xs.length := by rw [doT_xs]; split <;> simp
theorem there_doT (s : St) (x : Ac) (a : Int) : there (doT s x) a = there s a := by unfold there; rw [doT_len]
theorem runT_len : ∀ (l : List Ac) (s : St), (runT s l).xs.length = s.xs.length
  | [], _ => rfl
  | x :: l, s => by rw [runT, runT_len l, doT_len]
theorem getD_set (xs : List Int) (i j : Nat) (v : Int) (h : i < xs.length) : (xs.set i v).getD j 0 = if i = j then v else xs.getD j 0 := by
  simp only [List.getD, List.getElem?_set]
  split
  · rename_i e; subst e; rfl
  · rfl
theorem wAt_doT {s : St} {x : Ac} {a : Int} (ht : there s x.ad = true) (ha : there s a = true) : wAt (doT s x) a = if x.ad = a then nv x (wAt s x.ad) else wAt s a := by
  have h1 := inB_yes.1 (show inB s.xs.length x.ad = true from ht)
  have h2 := inB_yes.1 (show inB s.xs.length a = true from ha)
  unfold wAt
  rw [doT_xs, if_pos ht, getD_set _ _ _ _ (by omega)]
  by_cases e : x.ad = a
  · rw [if_pos (by rw [e]), if_pos e]; rfl
  · rw [if_neg (by omega), if_neg e]
theorem wAt_out {s : St} {x : Ac} {a : Int} (ht : there s x.ad = false) : wAt (doT s x) a = wAt s a := by
  unfold wAt
  rw [doT_xs, if_neg (by rw [ht]; decide)]

/-- What an act tells behind another one that it does not meet. -/
theorem tells_same {s : St} {x y : Ac} (h : meetsB x y = false) : doR (doT s y) x = doR s x := by
  rw [doR_rv, doR_rv, there_doT]
  cases hx : there s x.ad
  · exact rv_out _ _ _
  · cases hy : there s y.ad
    · rw [wAt_out hy]
    · rw [wAt_doT hy hx]
      by_cases e : y.ad = x.ad
      · rw [if_pos e]
        cases kx : kindB x
        · exact rv_kind kx _ _ _
        · cases ky : laysB y
          · rw [nv_lays ky, e]
          · have : kindB y = true := by unfold kindB; rw [ky]; simp
            unfold meetsB at h
            rw [kx, this, ky, e] at h
            simp at h
      · rw [if_neg e]
theorem meets_comm (x y : Ac) : meetsB x y = meetsB y x := by
  unfold meetsB
  rw [show (x.ad == y.ad) = (y.ad == x.ad) by rw [Bool.eq_iff_iff]; simp; omega]
  generalize kindB x = a
  generalize kindB y = b
  generalize laysB x = c
  generalize laysB y = d
  generalize (y.ad == x.ad) = e
  cases a <;> cases b <;> cases c <;> cases d <;> cases e <;> rfl
theorem leaves_same {s : St} {x y : Ac} (h : meetsB x y = false) : (doT (doT s x) y).xs = (doT (doT s y) x).xs := by
  rw [doT_xs, doT_xs (doT s y), there_doT, there_doT]
  cases hx : there s x.ad
  · rw [wAt_out hx]
    have e1 : (doT s x).xs = s.xs := by rw [doT_xs, if_neg (by rw [hx]; decide)]
    rw [e1, doT_xs s y]
    simp
  · cases hy : there s y.ad
    · have e1 : (doT s y).xs = s.xs := by rw [doT_xs, if_neg (by rw [hy]; decide)]
      rw [wAt_out hy, if_neg (by decide), if_pos rfl, e1, doT_xs s x, if_pos hx]
    · rw [if_pos rfl, if_pos rfl, wAt_doT hx hy, wAt_doT hy hx, doT_xs s x, doT_xs s y, if_pos hx, if_pos hy]
      have h1 := inB_yes.1 (show inB s.xs.length x.ad = true from hx)
      have h2 := inB_yes.1 (show inB s.xs.length y.ad = true from hy)
      by_cases e : x.ad = y.ad
      · rw [if_pos e, if_pos e.symm, e]
        rw [List.set_set, List.set_set]
        congr 1
        have : laysB x = false ∨ laysB y = false := by
          cases lx : laysB x
          · exact Or.inl rfl
          · cases ly : laysB y
            · exact Or.inr rfl
            · have k1 : kindB x = true := by unfold kindB; rw [lx]; simp
              have k2 : kindB y = true := by unfold kindB; rw [ly]; simp
              unfold meetsB at h
              rw [k1, k2, lx, e] at h
              simp at h
        rcases this with l | l
        · rw [nv_lays l, nv_lays l]
        · rw [nv_lays l, nv_lays l]
      · rw [if_neg e, if_neg (fun h => e h.symm)]
        exact List.set_comm _ _ (by omega)
end Go.Proofs.YtoeopapnegjooaaDoor
