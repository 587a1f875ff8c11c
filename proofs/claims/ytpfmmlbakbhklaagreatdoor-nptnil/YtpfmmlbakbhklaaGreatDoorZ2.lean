/- All tables from the root down, as a list that is laid by going over itself. Of no function; no conditions. -/
import Derived.Test.YtpfmmlbakbhklaaGreatDoorZ1
namespace Go.Proofs.YtpfmmlbakbhklaaGreatDoor
open Go.RowKit
theorem kids_mem {xs : List Int} {x y : Int × Nat} (h : x ∈ kids xs y) : 0 < y.2 ∧ x.2 = y.2 - 1 := by
  unfold kids at h
  obtain ⟨a, ha, rfl⟩ := List.mem_map.1 h
  have := (List.mem_filter.1 ha).2
  simp only [Bool.and_eq_true, decide_eq_true_eq] at this
  exact ⟨this.1, rfl⟩
theorem cutW_len (xs : List Int) (a : Int) : (cutW xs a 16).length ≤ 16 := by
  unfold cutW
  split
  · simp [cut]
    omega
  · simp
theorem kids_len (xs : List Int) (y : Int × Nat) : (kids xs y).length ≤ 16 := by
  unfold kids
  rw [List.length_map]
  exact Nat.le_trans (List.length_filter_le _ _) (cutW_len _ _)
theorem step_len (xs : List Int) : ∀ l : List (Int × Nat), (l.flatMap (kids xs)).length ≤ 16 * l.length
  | [] => by simp
  | y :: l => by
    have := step_len xs l
    have := kids_len xs y
    simp only [List.flatMap_cons, List.length_append, List.length_cons]
    omega
theorem levs_len (xs : List Int) : ∀ (k : Nat) (l : List (Int × Nat)), (levs xs k l).length ≤ l.length * 17 ^ k
  | 0, l => by simp [levs]
  | k + 1, l => by
    have h1 := levs_len xs k (l.flatMap (kids xs))
    have h2 := step_len xs l
    have h3 : (l.flatMap (kids xs)).length * 17 ^ k ≤ 16 * l.length * 17 ^ k := Nat.mul_le_mul_right _ h2
    have h4 : 1 ≤ 17 ^ k := Nat.one_le_pow _ _ (by decide)
    have h5 : l.length * 1 ≤ l.length * 17 ^ k := Nat.mul_le_mul_left _ h4
    unfold levs
    rw [List.length_append, Nat.pow_succ]
    have h6 : 16 * l.length * 17 ^ k = 16 * (l.length * 17 ^ k) := Nat.mul_assoc _ _ _
    have h7 : l.length * (17 ^ k * 17) = 17 * (l.length * 17 ^ k) := by rw [← Nat.mul_assoc, Nat.mul_comm]
    omega
theorem gat_len (xs : List Int) (root : Int) : (gat xs root).length ≤ 4913 := by
  have := levs_len xs 3 [(root, 3)]
  simpa [gat] using this
theorem levs_lev (xs : List Int) : ∀ (k : Nat) (l : List (Int × Nat)), (∀ x, x ∈ l → x.2 ≤ k) → (∀ x, x ∈ levs xs k l → x.2 ≤ k) ∧ levs xs k l = l ++ (levs xs k l).flatMap (kids xs)
  | 0, l, h => by
    refine ⟨h, ?_⟩
    have : l.flatMap (kids xs) = [] := by
      rw [List.flatMap_eq_nil_iff]
      intro y hy
      rw [List.eq_nil_iff_forall_not_mem]
      intro x hx
      have := kids_mem hx
      have := h y hy
      omega
    unfold levs
    rw [this, List.append_nil]
  | k + 1, l, h => by
    obtain ⟨h1, h2⟩ := levs_lev xs k (l.flatMap (kids xs)) (fun x hx => by
      obtain ⟨y, hy, hx⟩ := List.mem_flatMap.1 hx
      have := kids_mem hx
      have := h y hy
      omega)
    unfold levs
    refine ⟨fun x hx => ?_, ?_⟩
    · rcases List.mem_append.1 hx with hx | hx
      · exact h x hx
      · exact Nat.le_succ_of_le (h1 x hx)
    · rw [List.flatMap_append, ← h2]
theorem gat_self (xs : List Int) (root : Int) : gat xs root = (root, 3) :: (gat xs root).flatMap (kids xs) := (levs_lev xs 3 [(root, 3)] (by simp)).2
theorem gat_lev (xs : List Int) (root : Int) : ∀ x, x ∈ gat xs root → x.2 ≤ 3 := (levs_lev xs 3 [(root, 3)] (by simp)).1
theorem none_left {xs : List Int} {R : List (Int × Nat)} {n : Nat} (h : R = R.flatMap (kids xs)) (hn : ∀ x, x ∈ R → x.2 ≤ n) : R = [] := by
  have key : ∀ m x, x ∈ R → x.2 + m ≤ n := by
    intro m
    induction m with
    | zero => exact hn
    | succ m ih =>
      intro x hx
      rw [h] at hx
      obtain ⟨y, hy, hx⟩ := List.mem_flatMap.1 hx
      have := kids_mem hx
      have := ih y hy
      omega
  rw [List.eq_nil_iff_forall_not_mem]
  intro x hx
  have := key (n + 1) x hx
  omega
/-- What has been laid when i tables have been gone over. -/
def gatI (xs : List Int) (root : Int) (i : Nat) : List (Int × Nat) := (root, 3) :: ((gat xs root).take i).flatMap (kids xs)
theorem gatI_pre (xs : List Int) (root : Int) (i : Nat) : gat xs root = gatI xs root i ++ ((gat xs root).drop i).flatMap (kids xs) := by
  conv => lhs; rw [gat_self]
  unfold gatI
  rw [List.cons_append, ← List.flatMap_append, List.take_append_drop]
theorem gatI_at {xs : List Int} {root : Int} {i : Nat} (h : i < (gatI xs root i).length) : i < (gat xs root).length ∧ (gatI xs root i).getD i (0, 0) = (gat xs root).getD i (0, 0) ∧ gatI xs root (i + 1) = gatI xs root i ++ kids xs ((gat xs root).getD i (0, 0)) := by
  have hp := gatI_pre xs root i
  have hl : i < (gat xs root).length := by rw [hp, List.length_append]; omega
  refine ⟨hl, ?_, ?_⟩
  · rw [List.getD_eq_getElem?_getD, List.getD_eq_getElem?_getD]
    conv => rhs; rw [hp, List.getElem?_append_left h]
  · unfold gatI
    rw [List.take_add_one, List.getElem?_eq_getElem hl, List.flatMap_append, List.cons_append]
    simp [List.getD, hl]
theorem gatI_end {xs : List Int} {root : Int} {i : Nat} (h : (gatI xs root i).length ≤ i) (hi : i ≤ (gatI xs root i).length) : gatI xs root i = gat xs root := by
  have hp := gatI_pre xs root i
  have he : i = (gatI xs root i).length := by omega
  have ht : (gat xs root).take i = gatI xs root i := by
    conv => lhs; rw [hp]
    exact List.take_left' he.symm
  have hd : (gat xs root).drop i = ((gat xs root).drop i).flatMap (kids xs) := by
    conv => lhs; rw [hp]
    exact List.drop_left' he.symm
  have hn := none_left hd (n := 3) fun x hx => gat_lev xs root x (List.mem_of_mem_drop hx)
  rw [hn] at hp
  simpa using hp.symm
theorem gatI_len (xs : List Int) (root : Int) (i : Nat) : (gatI xs root i).length ≤ 4913 := by
  have h := gat_len xs root
  rw [gatI_pre xs root i, List.length_append] at h
  omega
end Go.Proofs.YtpfmmlbakbhklaaGreatDoor
