/- A pool as a list of descriptors: what Turn, Ref, Take tell and leave, which frames are meant, how many; of no function; no conditions. -/
import Derived.Test.YtpfmmlbakbhklaaGreatDoorOD4
namespace Go.Proofs.YtpfmmlbakbhklaaGreatDoor.O
open Go.RowKit

/-- The descriptors' cells, one behind the other. -/
def fl (L : List Ds) : List Value := L.flatMap fun d => [.int .i64 d.k, .int .i64 d.o, .int .i64 d.r, .int .i64 d.e]
theorem fl_nil : fl [] = [] := rfl
theorem fl_cons (d : Ds) (L : List Ds) : fl (d :: L) = .int .i64 d.k :: .int .i64 d.o :: .int .i64 d.r :: .int .i64 d.e :: fl L := rfl
theorem fl_length : ∀ L : List Ds, (fl L).length = L.length * 4
  | [] => rfl
  | d :: L => by rw [fl_cons]; simp only [List.length_cons, fl_length L]; omega
theorem fl_append (A B : List Ds) : fl (A ++ B) = fl A ++ fl B := by simp [fl]
theorem fl_at : ∀ (L : List Ds) (i : Nat), i < L.length → (fl L)[i * 4]? = some (.int .i64 (L.getD i zd).k) ∧ (fl L)[i * 4 + 1]? = some (.int .i64 (L.getD i zd).o) ∧ (fl L)[i * 4 + 2]? = some (.int .i64 (L.getD i zd).r) ∧ (fl L)[i * 4 + 3]? = some (.int .i64 (L.getD i zd).e)
  | [], i, h => by simp at h
  | d :: L, 0, _ => by rw [fl_cons]; simp
  | d :: L, i + 1, h => by
    have ih := fl_at L i (by simpa using h)
    rw [fl_cons, show (i + 1) * 4 = i * 4 + 4 by omega]
    simpa [List.getD] using ih
theorem fl_set : ∀ (L : List Ds) (i : Nat) (d : Ds), i < L.length → ((((fl L).set (i * 4) (.int .i64 d.k)).set (i * 4 + 1) (.int .i64 d.o)).set (i * 4 + 2) (.int .i64 d.r)).set (i * 4 + 3) (.int .i64 d.e) = fl (L.set i d)
  | [], i, d, h => by simp at h
  | c :: L, 0, d, _ => by rw [List.set_cons_zero, fl_cons, fl_cons]; rfl
  | c :: L, i + 1, d, h => by
    have ih := fl_set L i d (by simpa using h)
    rw [List.set_cons_succ, fl_cons, fl_cons, ← ih, show (i + 1) * 4 = i * 4 + 4 by omega]
    simp
theorem fl_zero (n : Nat) : fl (List.replicate n zd) = List.replicate (n * 4) (.int .i64 0) := by
  induction n with
  | zero => rfl
  | succ n ih => rw [List.replicate_succ, fl_cons, ih, show (n + 1) * 4 = n * 4 + 4 by omega]; rfl

/-! Which frames are meant. -/
def wh (m : Ds → Bool) (L : List Ds) : List Nat := (List.range L.length).filter fun i => m (L.getD i zd)
theorem wh_mem {m : Ds → Bool} {L : List Ds} {i : Nat} : i ∈ wh m L ↔ i < L.length ∧ m (L.getD i zd) = true := by simp [wh]
theorem wh_sorted (m : Ds → Bool) (L : List Ds) : (wh m L).Pairwise (· < ·) := List.Pairwise.filter _ List.pairwise_lt_range
theorem wh_len (m : Ds → Bool) (L : List Ds) : (wh m L).length ≤ L.length := by
  have := List.length_filter_le (fun i => m (L.getD i zd)) (List.range L.length)
  simpa [wh] using this
theorem wh_count (m : Ds → Bool) (L : List Ds) : (wh m L).length = L.countP m := by
  have h : L = (List.range L.length).map fun i => L.getD i zd := by
    apply List.ext_getElem
    · simp
    · intro i h1 h2; simp [List.getD, h1]
  conv => rhs; rw [h]
  rw [List.countP_map, List.countP_eq_length_filter]
  rfl
/-- Those among the first k. -/
def upW (m : Ds → Bool) (L : List Ds) (k : Nat) : List Nat := (List.range k).filter fun i => m (L.getD i zd)
theorem upW_zero (m : Ds → Bool) (L : List Ds) : upW m L 0 = [] := rfl
theorem upW_yes {m : Ds → Bool} {L : List Ds} {k : Nat} (h : m (L.getD k zd) = true) : upW m L (k + 1) = upW m L k ++ [k] := by
  rw [upW, List.range_succ, List.filter_append, List.filter_cons_of_pos (l := []) (by exact h)]; rfl
theorem upW_no {m : Ds → Bool} {L : List Ds} {k : Nat} (h : m (L.getD k zd) = false) : upW m L (k + 1) = upW m L k := by
  rw [upW, List.range_succ, List.filter_append, List.filter_cons_of_neg (l := []) (by show ¬ m (L.getD k zd) = true; rw [h]; decide)]; exact List.append_nil _
theorem upW_all (m : Ds → Bool) (L : List Ds) : upW m L L.length = wh m L := rfl
theorem upW_len (m : Ds → Bool) (L : List Ds) (k : Nat) : (upW m L k).length ≤ k := by
  have := List.length_filter_le (fun i => m (L.getD i zd)) (List.range k)
  simpa [upW] using this
theorem upW_pre (m : Ds → Bool) (L : List Ds) (k : Nat) (h : k ≤ L.length) : upW m L k <+: wh m L := by
  obtain ⟨j, hj⟩ : ∃ j, L.length = k + j := ⟨L.length - k, by omega⟩
  rw [← upW_all, hj]
  clear hj h
  induction j with
  | zero => exact List.prefix_rfl
  | succ j ih =>
    refine ih.trans ?_
    show upW m L (k + j) <+: upW m L (k + j + 1)
    cases h : m (L.getD (k + j) zd)
    · rw [upW_no h]; exact List.prefix_rfl
    · rw [upW_yes h]; exact List.prefix_append _ _
theorem upW_lt {m : Ds → Bool} {L : List Ds} {k : Nat} (h : m (L.getD k zd) = true) (hk : k < L.length) : (upW m L k).length < (wh m L).length := by
  have := (upW_pre m L (k + 1) hk).length_le
  rw [upW_yes h] at this
  simp at this
  omega

def isK (k : Int) (d : Ds) : Bool := d.k == k
def isO (o : Int) (d : Ds) : Bool := d.o == o
/-- How many are of a kind. -/
def cK (L : List Ds) (k : Int) : Nat := (wh (isK k) L).length
/-- The frames that are free. -/
abbrev fr (L : List Ds) : List Nat := wh (isK 0) L

/-! What Turn, Ref and Take tell and leave. -/
def at' (L : List Ds) (f : Int) : Ds := L.getD f.toNat zd
def tE (L : List Ds) (f k o : Int) : Int := if 0 ≤ f ∧ f < L.length then nxE (at' L f) k o else 2
def tL (L : List Ds) (f k o : Int) : List Ds := if tE L f k o = 0 then L.set f.toNat (nxD (at' L f) k o) else L
def gE (L : List Ds) (f b : Int) : Int := if 0 ≤ f ∧ f < L.length then rfE (at' L f) b else 2
def rfD (d : Ds) (b : Int) : Ds := ⟨d.k, d.o, d.r + b, d.e⟩
def gL (L : List Ds) (f b : Int) : List Ds := if gE L f b = 0 then L.set f.toNat (rfD (at' L f) b) else L
def kE (L : List Ds) (k o : Int) : Int := match fr L with | [] => 12 | f :: _ => tE L f k o
def kF (L : List Ds) (k o : Int) : Int := match fr L with | [] => 0 | f :: _ => if tE L f k o = 0 then f else 0
def kL (L : List Ds) (k o : Int) : List Ds := match fr L with | [] => L | f :: _ => tL L f k o

theorem nx_ok {d : Ds} {k o : Int} (h : nxE d k o = 0) : nx d k o = nxD d k o := by simp [nx, h]
theorem rf_ok {d : Ds} {b : Int} (h : rfE d b = 0) : rf d b = rfD d b := by simp [rf, h, rfD]
theorem tL_len (L : List Ds) (f k o : Int) : (tL L f k o).length = L.length := by unfold tL; split <;> simp
theorem gL_len (L : List Ds) (f b : Int) : (gL L f b).length = L.length := by unfold gL; split <;> simp
theorem kL_len (L : List Ds) (k o : Int) : (kL L k o).length = L.length := by unfold kL; split <;> simp [tL_len]

/-- All are right. -/
def Rt (L : List Ds) : Prop := ∀ d ∈ L, rt d = true
theorem Rt.at {L : List Ds} (h : Rt L) (i : Nat) (hi : i < L.length) : rt (L.getD i zd) = true := by
  have : L.getD i zd = L[i] := by simp [List.getD, hi]
  rw [this]; exact h _ (List.getElem_mem hi)
theorem rt_zd : rt zd = true := by decide
theorem Rt.zero (n : Nat) : Rt (List.replicate n zd) := fun d hd => by rw [List.eq_of_mem_replicate hd]; exact rt_zd
theorem Rt.set {L : List Ds} (h : Rt L) (i : Nat) {d : Ds} (hd : rt d = true) : Rt (L.set i d) := fun x hx => by
  rcases List.mem_or_eq_of_mem_set hx with hx | rfl
  · exact h _ hx
  · exact hd
theorem nxE_right {d : Ds} {k o : Int} (h : nxE d k o = 0) : rt d = true ∧ d.r = 0 ∧ way d.k k = true ∧ rt (nxD d k o) = true := by
  unfold nxE at h
  split at h
  · split at h
    · split at h
      · split at h
        · exact ⟨‹_›, ‹_›, ‹_›, ‹_›⟩
        · omega
      · omega
    · omega
  · omega
theorem rfE_right {d : Ds} {b : Int} (h : rfE d b = 0) : rt (rfD d b) = true ∧ 2 ≤ d.k ∧ d.k ≤ 4 := by
  unfold rfE at h
  split at h
  · rename_i h1
    split at h
    · rename_i h2
      split at h
      · rename_i h3
        refine ⟨?_, h2⟩
        have := (rt_iff d).1 h1
        rw [rt_iff]
        simp only [rfD]
        omega
      · omega
    · omega
  · omega
theorem tE_in {L : List Ds} {f k o : Int} (h : tE L f k o = 0) : (0 ≤ f ∧ f < L.length) ∧ nxE (at' L f) k o = 0 := by
  unfold tE at h
  split at h
  · exact ⟨‹_›, h⟩
  · omega
theorem gE_in {L : List Ds} {f b : Int} (h : gE L f b = 0) : (0 ≤ f ∧ f < L.length) ∧ rfE (at' L f) b = 0 := by
  unfold gE at h
  split at h
  · exact ⟨‹_›, h⟩
  · omega
theorem Rt.turn {L : List Ds} (h : Rt L) (f k o : Int) : Rt (tL L f k o) := by
  unfold tL
  split
  · rename_i h0
    exact h.set _ (nxE_right (tE_in h0).2).2.2.2
  · exact h
theorem Rt.ref {L : List Ds} (h : Rt L) (f b : Int) : Rt (gL L f b) := by
  unfold gL
  split
  · rename_i h0
    exact h.set _ (rfE_right (gE_in h0).2).1
  · exact h
theorem Rt.take {L : List Ds} (h : Rt L) (k o : Int) : Rt (kL L k o) := by
  unfold kL
  split
  · exact h
  · exact h.turn _ _ _
end Go.Proofs.YtpfmmlbakbhklaaGreatDoor.O
