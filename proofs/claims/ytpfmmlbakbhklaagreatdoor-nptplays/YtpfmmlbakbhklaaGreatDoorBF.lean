/- A pool as a list of descriptors: what Turn, Ref, Take tell and leave, which frames are meant, how many; of no function; no conditions. A pool that lies in memory behind a pointer: a slice of descriptors; what is known of its cells, and what stays when one of them is laid. Of no function; no conditions. What the pool's small calls (isNone, fault, Len, Of) return, for every pool and every number: the world's old blocks are as they were. What the two closures that change a descriptor (Turn$1, Ref$1) return, and what lay, Turn, Give and Ref return and leave, for every pool whose descriptors lie in memory and every number: the same functions as the document's. Condition: the table of rules lies in its variable. What lay returns and leaves, with each of the two closures (Turn$1, Ref$1), for every pool whose descriptors lie in memory and every number. Condition: the table of rules lies in its variable. What Turn, Give and Ref return and leave, for every pool whose descriptors lie in memory and every number; of no pool: the error. Condition: the table of rules lies in its variable. The iterator over the frames that are meant (those), of a kind and of an owner: for every pool whose descriptors lie in memory it hands on the numbers of just these frames, rising; of no pool none. No other condition. -/
import Derived.Test.YtpfmmlbakbhklaaGreatDoorBE
import Derived.RangeFuncNested
import Derived.RangeFuncBound
import Derived.RangeFuncBox
import Derived.RangeFuncCalls
import Derived.RangeFuncLeaves
import Derived.Shelf.Abstract
import Derived.Shelf.RegionOpen
import Derived.OwnWalkIn
import Derived.TacticsInMore
import Derived.LoopNIn
import Derived.LoopIn
namespace Go.Proofs.YtpfmmlbakbhklaaGreatDoor.O
open Go.RowKit

/-- The descriptors' cells, one behind the other. -/
def fl (L : List Ds) : List Value := L.flatMap fun d => [.int .i64 d.k, .int .i64 d.o, .int .i64 d.r, .int .i64 d.e]
theorem fl_nil : fl [] = [] := rfl
theorem fl_cons (d : Ds) (L : List Ds) : fl (d :: L) = .int .i64 d.k :: .int .i64 d.o :: .int .i64 d.r :: .int .i64 d.e :: fl L := rfl
theorem fl_length : ∀ L : List Ds, (fl L).length = L.length * 4
  | [] => rfl
  | d :: L => by rw [fl_cons]; simp only [List.length_cons, fl_length L]; omega
theorem fl_append (A B : List Ds) : fl (A ++ B) = fl A ++ fl B := by simp [fl]
theorem fl_at : ∀ (L : List Ds) (i : Nat), i < L.length → (fl L)[i * 4]? = some (.int .i64 (L.getD i zd).k) ∧ (fl L)[i * 4 + 1]? = some (.int .i64 (L.getD i zd).o) ∧ (fl L)[i * 4 + 2]? = some (.int .i64 (L.getD i zd).r) ∧ (fl L)[i * 4 + 3]? = some (.int .i64 (L.getD i zd).e)
  | [], i, h => by simp at h
  | d :: L, 0, _ => by rw [fl_cons]; simp
  | d :: L, i + 1, h => by
    have ih := fl_at L i (by simpa using h)
    rw [fl_cons, show (i + 1) * 4 = i * 4 + 4 by omega]
    simpa [List.getD] using ih
theorem fl_set : ∀ (L : List Ds) (i : Nat) (d : Ds), i < L.length → ((((fl L).set (i * 4) (.int .i64 d.k)).set (i * 4 + 1) (.int .i64 d.o)).set (i * 4 + 2) (.int .i64 d.r)).set (i * 4 + 3) (.int .i64 d.e) = fl (L.set i d)
  | [], i, d, h => by simp at h
  | c :: L, 0, d, _ => by rw [List.set_cons_zero, fl_cons, fl_cons]; rfl
  | c :: L, i + 1, d, h => by
    have ih := fl_set L i d (by simpa using h)
    rw [List.set_cons_succ, fl_cons, fl_cons, ← ih, show (i + 1) * 4 = i * 4 + 4 by omega]
    simp
theorem fl_zero (n : Nat) : fl (List.replicate n zd) = List.replicate (n * 4) (.int .i64 0) := by
  induction n with
  | zero => rfl
  | succ n ih => rw [List.replicate_succ, fl_cons, ih, show (n + 1) * 4 = n * 4 + 4 by omega]; rfl

/-! Which frames are meant. -/
def wh (m : Ds → Bool) (L : List Ds) : List Nat := (List.range L.length).filter fun i => m (L.getD i zd)
theorem wh_mem {m : Ds → Bool} {L : List Ds} {i : Nat} : i ∈ wh m L ↔ i < L.length ∧ m (L.getD i zd) = true := by simp [wh]
theorem wh_sorted (m : Ds → Bool) (L : List Ds) : (wh m L).Pairwise (· < ·) := List.Pairwise.filter _ List.pairwise_lt_range
theorem wh_len (m : Ds → Bool) (L : List Ds) : (wh m L).length ≤ L.length := by
  have := List.length_filter_le (fun i => m (L.getD i zd)) (List.range L.length)
  simpa [wh] using this
theorem wh_count (m : Ds → Bool) (L : List Ds) : (wh m L).length = L.countP m := by
  have h : L = (List.range L.length).map fun i => L.getD i zd := by
    apply List.ext_getElem
    · simp
    · intro i h1 h2; simp [List.getD, h1]
  conv => rhs; rw [h]
  rw [List.countP_map, List.countP_eq_length_filter]
  rfl
/-- Those among the first k. -/
def upW (m : Ds → Bool) (L : List Ds) (k : Nat) : List Nat := (List.range k).filter fun i => m (L.getD i zd)
theorem upW_zero (m : Ds → Bool) (L : List Ds) : upW m L 0 = [] := rfl
theorem upW_yes {m : Ds → Bool} {L : List Ds} {k : Nat} (h : m (L.getD k zd) = true) : upW m L (k + 1) = upW m L k ++ [k] := by
  rw [upW, List.range_succ, List.filter_append, List.filter_cons_of_pos (l := []) (by exact h)]; rfl
theorem upW_no {m : Ds → Bool} {L : List Ds} {k : Nat} (h : m (L.getD k zd) = false) : upW m L (k + 1) = upW m L k := by
  rw [upW, List.range_succ, List.filter_append, List.filter_cons_of_neg (l := []) (by show ¬ m (L.getD k zd) = true; rw [h]; decide)]; exact List.append_nil _
theorem upW_all (m : Ds → Bool) (L : List Ds) : upW m L L.length = wh m L := rfl
theorem upW_len (m : Ds → Bool) (L : List Ds) (k : Nat) : (upW m L k).length ≤ k := by
  have := List.length_filter_le (fun i => m (L.getD i zd)) (List.range k)
  simpa [upW] using this
theorem upW_pre (m : Ds → Bool) (L : List Ds) (k : Nat) (h : k ≤ L.length) : upW m L k <+: wh m L := by
  obtain ⟨j, hj⟩ : ∃ j, L.length = k + j := ⟨L.length - k, by omega⟩
  rw [← upW_all, hj]
  clear hj h
  induction j with
  | zero => exact List.prefix_rfl
  | succ j ih =>
    refine ih.trans ?_
    show upW m L (k + j) <+: upW m L (k + j + 1)
    cases h : m (L.getD (k + j) zd)
    · rw [upW_no h]; exact List.prefix_rfl
    · rw [upW_yes h]; exact List.prefix_append _ _
theorem upW_lt {m : Ds → Bool} {L : List Ds} {k : Nat} (h : m (L.getD k zd) = true) (hk : k < L.length) : (upW m L k).length < (wh m L).length := by
  have := (upW_pre m L (k + 1) hk).length_le
  rw [upW_yes h] at this
  simp at this
  omega

def isK (k : Int) (d : Ds) : Bool := d.k == k
def isO (o : Int) (d : Ds) : Bool := d.o == o
/-- How many are of a kind. -/
def cK (L : List Ds) (k : Int) : Nat := (wh (isK k) L).length
/-- The frames that are free. -/
abbrev fr (L : List Ds) : List Nat := wh (isK 0) L

/-! What Turn, Ref and Take tell and leave. -/
def at' (L : List Ds) (f : Int) : Ds := L.getD f.toNat zd
def tE (L : List Ds) (f k o : Int) : Int := if 0 ≤ f ∧ f < L.length then nxE (at' L f) k o else 2
def tL (L : List Ds) (f k o : Int) : List Ds := if tE L f k o = 0 then L.set f.toNat (nxD (at' L f) k o) else L
def gE (L : List Ds) (f b : Int) : Int := if 0 ≤ f ∧ f < L.length then rfE (at' L f) b else 2
def rfD (d : Ds) (b : Int) : Ds := ⟨d.k, d.o, d.r + b, d.e⟩
def gL (L : List Ds) (f b : Int) : List Ds := if gE L f b = 0 then L.set f.toNat (rfD (at' L f) b) else L
def kE (L : List Ds) (k o : Int) : Int := match fr L with | [] => 12 | f :: _ => tE L f k o
def kF (L : List Ds) (k o : Int) : Int := match fr L with | [] => 0 | f :: _ => if tE L f k o = 0 then f else 0
def kL (L : List Ds) (k o : Int) : List Ds := match fr L with | [] => L | f :: _ => tL L f k o

theorem nx_ok {d : Ds} {k o : Int} (h : nxE d k o = 0) : nx d k o = nxD d k o := by simp [nx, h]
theorem rf_ok {d : Ds} {b : Int} (h : rfE d b = 0) : rf d b = rfD d b := by simp [rf, h, rfD]
theorem tL_len (L : List Ds) (f k o : Int) : (tL L f k o).length = L.length := by unfold tL; split <;> simp
theorem gL_len (L : List Ds) (f b : Int) : (gL L f b).length = L.length := by unfold gL; split <;> simp
theorem kL_len (L : List Ds) (k o : Int) : (kL L k o).length = L.length := by unfold kL; split <;> simp [tL_len]

/-- All are right. -/
def Rt (L : List Ds) : Prop := ∀ d ∈ L, rt d = true
theorem Rt.at {L : List Ds} (h : Rt L) (i : Nat) (hi : i < L.length) : rt (L.getD i zd) = true := by
  have : L.getD i zd = L[i] := by simp [List.getD, hi]
  rw [this]; exact h _ (List.getElem_mem hi)
theorem rt_zd : rt zd = true := by decide
theorem Rt.zero (n : Nat) : Rt (List.replicate n zd) := fun d hd => by rw [List.eq_of_mem_replicate hd]; exact rt_zd
theorem Rt.set {L : List Ds} (h : Rt L) (i : Nat) {d : Ds} (hd : rt d = true) : Rt (L.set i d) := fun x hx => by
  rcases List.mem_or_eq_of_mem_set hx with hx | rfl
  · exact h _ hx
  · exact hd
theorem nxE_right {d : Ds} {k o : Int} (h : nxE d k o = 0) : rt d = true ∧ d.r = 0 ∧ way d.k k = true ∧ rt (nxD d k o) = true := by
  unfold nxE at h
  split at h
  · split at h
    · split at h
      · split at h
        · exact ⟨‹_›, ‹_›, ‹_›, ‹_›⟩
        · omega
      · omega
    · omega
  · omega
theorem rfE_right {d : Ds} {b : Int} (h : rfE d b = 0) : rt (rfD d b) = true ∧ 2 ≤ d.k ∧ d.k ≤ 4 := by
  unfold rfE at h
  split at h
  · rename_i h1
    split at h
    · rename_i h2
      split at h
      · rename_i h3
        refine ⟨?_, h2⟩
        have := (rt_iff d).1 h1
        rw [rt_iff]
        simp only [rfD]
        omega
      · omega
    · omega
  · omega
theorem tE_in {L : List Ds} {f k o : Int} (h : tE L f k o = 0) : (0 ≤ f ∧ f < L.length) ∧ nxE (at' L f) k o = 0 := by
  unfold tE at h
  split at h
  · exact ⟨‹_›, h⟩
  · omega
theorem gE_in {L : List Ds} {f b : Int} (h : gE L f b = 0) : (0 ≤ f ∧ f < L.length) ∧ rfE (at' L f) b = 0 := by
  unfold gE at h
  split at h
  · exact ⟨‹_›, h⟩
  · omega
theorem Rt.turn {L : List Ds} (h : Rt L) (f k o : Int) : Rt (tL L f k o) := by
  unfold tL
  split
  · rename_i h0
    exact h.set _ (nxE_right (tE_in h0).2).2.2.2
  · exact h
theorem Rt.ref {L : List Ds} (h : Rt L) (f b : Int) : Rt (gL L f b) := by
  unfold gL
  split
  · rename_i h0
    exact h.set _ (rfE_right (gE_in h0).2).1
  · exact h
theorem Rt.take {L : List Ds} (h : Rt L) (k o : Int) : Rt (kL L k o) := by
  unfold kL
  split
  · exact h
  · exact h.turn _ _ _
end Go.Proofs.YtpfmmlbakbhklaaGreatDoor.O
namespace Go.Proofs.YtpfmmlbakbhklaaGreatDoor.O
open Go.RowKit

/-- Block p is a struct of type t: a slice (block b) of the descriptors L, of type u. -/
structure IsP (t u : TypeId) (w : World) (p b : Nat) (L : List Ds) : Prop where
  head : ∃ c, w.heap[p]? = some (.cells #[.slice (some ⟨b, 0, none⟩) L.length c] t (0, 0))
  row : ∃ r, w.heap[b]? = some (.cells ⟨fl L ++ r⟩ u (0, 0))
  ne : p ≠ b
  pos : 1 ≤ L.length
  top : L.length ≤ 4096

/-- All that was there is as it was, but for the block b. -/
structure Bt (b : Nat) (w w' : World) : Prop where
  os : w'.os = w.os
  tape : w'.tape = w.tape
  output : w'.output = w.output
  size : w.heap.size ≤ w'.heap.size
  block : ∀ k, k < w.heap.size → k ≠ b → w'.heap[k]? = w.heap[k]?
theorem Bt.refl (b : Nat) (w : World) : Bt b w w := ⟨rfl, rfl, rfl, Nat.le_refl _, fun _ _ _ => rfl⟩
theorem Bt.trans {b : Nat} {x y z : World} (h : Bt b x y) (k : Bt b y z) : Bt b x z :=
  ⟨k.os.trans h.os, k.tape.trans h.tape, k.output.trans h.output, Nat.le_trans h.size k.size, fun i hi a => (k.block i (Nat.lt_of_lt_of_le hi h.size) a).trans (h.block i hi a)⟩
theorem Bt.below {b : Nat} {w w' : World} (h : Bt b w w') {B : Nat} (hB : B ≤ w.heap.size) (hb : B ≤ b) : Below B w w' :=
  ⟨h.os, h.tape, h.output, h.size, fun k hk => h.block k (by omega) (by omega)⟩
theorem Bt.of_below {b : Nat} {w w' : World} (h : Below w.heap.size w w') : Bt b w w' :=
  ⟨h.os, h.tape, h.output, h.size, fun k hk _ => h.block k hk⟩
theorem Bt.setCell (b : Nat) (w : World) (i : Nat) (u : Value) : Bt b w (w.setCell ⟨b, i, none⟩ u) :=
  ⟨rfl, rfl, rfl, by simp [World.setCell], fun k _ h => Below.heap_setCell w _ u k h⟩
theorem Bt.tab {b : Nat} {w w' : World} (h : Bt b w w') (hT : Tab w) (hb : 0 < b) : Tab w' := hT.below (h.below (B := 1) (by have := hT.pos; omega) hb) (by omega) h.size
theorem Bt.setNew {b n : Nat} {w w' : World} (h : Bt b w w') {p : Addr} (hp : w.heap.size ≤ p.block) (u : Value) (hn : n = n) : Bt b w (w'.setCell p u) :=
  have _ := hn
  ⟨h.os, h.tape, h.output, by simpa [World.setCell] using h.size, fun k hk hb => (Below.heap_setCell w' p u k (by omega)).trans (h.block k hk hb)⟩

theorem Bt.drew {b : Nat} {w w' : World} (h : Bt b w w') : Bt b w w'.drew := ⟨h.os, h.tape, h.output, h.size, h.block⟩
section
variable {t u : TypeId} {w w' : World} {p b : Nat} {L : List Ds}
theorem IsP.lt (h : IsP t u w p b L) : p < w.heap.size ∧ b < w.heap.size := by
  obtain ⟨c, hc⟩ := h.head
  obtain ⟨r, hr⟩ := h.row
  exact ⟨lt_of_block hc, lt_of_block hr⟩
theorem IsP.keep (h : IsP t u w p b L) (e : w'.heap[p]? = w.heap[p]?) (f : w'.heap[b]? = w.heap[b]?) : IsP t u w' p b L := by
  obtain ⟨c, hc⟩ := h.head
  obtain ⟨r, hr⟩ := h.row
  exact ⟨⟨c, e.trans hc⟩, ⟨r, f.trans hr⟩, h.ne, h.pos, h.top⟩
theorem IsP.below (h : IsP t u w p b L) (k : Below w.heap.size w w') : IsP t u w' p b L := h.keep (k.block _ h.lt.1) (k.block _ h.lt.2)
theorem IsP.bt {c : Nat} (h : IsP t u w p b L) (k : Bt c w w') (h1 : p ≠ c) (h2 : b ≠ c) : IsP t u w' p b L := h.keep (k.block _ h.lt.1 h1) (k.block _ h.lt.2 h2)
theorem IsP.drew (h : IsP t u w p b L) : IsP t u w.drew p b L := h.keep rfl rfl
theorem IsP.alloc (h : IsP t u w p b L) (o : Obj) : IsP t u (w.alloc o) p b L := h.below (below_one w o)
theorem IsP.slice (h : IsP t u w p b L) : ∃ c, w.cell? ⟨p, 0, none⟩ = some (.slice (some ⟨b, 0, none⟩) L.length c) := by
  obtain ⟨c, hc⟩ := h.head
  exact ⟨c, cell_of hc rfl⟩
theorem fl_pre (L : List Ds) (r : List Value) {i : Nat} {v : Value} (h : (fl L)[i]? = some v) : (fl L ++ r)[i]? = some v := by
  rw [List.getElem?_append_left]
  · exact h
  · exact (List.getElem?_eq_some_iff.1 h).1
theorem IsP.cells (h : IsP t u w p b L) (i : Nat) (hi : i < L.length) :
    w.cell? ⟨b, i * 4, none⟩ = some (.int .i64 (L.getD i zd).k) ∧ w.cell? ⟨b, i * 4 + 1, none⟩ = some (.int .i64 (L.getD i zd).o) ∧ w.cell? ⟨b, i * 4 + 2, none⟩ = some (.int .i64 (L.getD i zd).r) ∧ w.cell? ⟨b, i * 4 + 3, none⟩ = some (.int .i64 (L.getD i zd).e) := by
  obtain ⟨r, hr⟩ := h.row
  obtain ⟨a0, a1, a2, a3⟩ := fl_at L i hi
  exact ⟨cell_of hr (by simpa using fl_pre L r a0), cell_of hr (by simpa using fl_pre L r a1), cell_of hr (by simpa using fl_pre L r a2), cell_of hr (by simpa using fl_pre L r a3)⟩
theorem IsP.free (h : IsP t u w p b L) (i : Nat) : w.frozen? ⟨b, i, none⟩ = false := by
  obtain ⟨r, hr⟩ := h.row
  exact free_of hr
/-- A descriptor is laid. -/
abbrev lay4 (w : World) (b i : Nat) (d : Ds) : World := (((w.setCell ⟨b, i * 4, none⟩ (.int .i64 d.k)).setCell ⟨b, i * 4 + 1, none⟩ (.int .i64 d.o)).setCell ⟨b, i * 4 + 2, none⟩ (.int .i64 d.r)).setCell ⟨b, i * 4 + 3, none⟩ (.int .i64 d.e)
theorem Bt.lay (w : World) (b i : Nat) (d : Ds) : Bt b w (lay4 w b i d) :=
  (((Bt.setCell b w _ _).trans (Bt.setCell b _ _ _)).trans (Bt.setCell b _ _ _)).trans (Bt.setCell b _ _ _)
theorem IsP.set (h : IsP t u w p b L) (i : Nat) (hi : i < L.length) (d : Ds) : IsP t u (lay4 w b i d) p b (L.set i d) := by
  obtain ⟨c, hc⟩ := h.head
  obtain ⟨r, hr⟩ := h.row
  refine ⟨⟨c, ?_⟩, ⟨r, ?_⟩, h.ne, by simpa using h.pos, by simpa using h.top⟩
  · rw [(Bt.lay w b i d).block p (lt_of_block hc) h.ne, hc, List.length_set]
  · rw [heap_setCell_self (heap_setCell_self (heap_setCell_self (heap_setCell_self hr _) _) _) _, ← fl_set L i d hi]
    have hl : i * 4 + 3 < (fl L).length := by rw [fl_length]; omega
    simp only [List.setIfInBounds_toArray]
    rw [List.set_append_left _ _ (by omega), List.set_append_left _ _ (by simp; omega), List.set_append_left _ _ (by simp; omega), List.set_append_left _ _ (by simp; omega)]
end

/-- The program's pool, the document's. -/
abbrev PP := IsP 129 64
abbrev RP := IsP 90 91
end Go.Proofs.YtpfmmlbakbhklaaGreatDoor.O
namespace Go.Proofs.YtpfmmlbakbhklaaGreatDoor.O
open Go.RowKit

/-- No pool: nil, or one that New did not give. -/
def NoP (w : World) (v : Value) : Prop := v = .pointer none ∨ ∃ g, v = .pointer (some ⟨g, 0, none⟩) ∧ w.cell? ⟨g, 0, none⟩ = some (.slice none 0 0)
theorem NoP.below {w w' : World} {v : Value} (h : NoP w v) (k : Below w.heap.size w w') : NoP w' v := by
  rcases h with h | ⟨g, h, e⟩
  · exact .inl h
  · exact .inr ⟨g, h, (k.cell (p := ⟨g, 0, none⟩) (World.block_lt_of_cell? w ⟨g, 0, none⟩ e)).trans e⟩

set_option maxHeartbeats 400000 in
theorem isNone_no {w : World} {p b : Nat} {L : List Ds} (h : PP w p b L) :
    Calls Tryz.prog 66 #[.pointer (some ⟨p, 0, none⟩)] w fun e w' => e = .returned (.bool false) ∧ w' = w := by
  obtain ⟨c, hc⟩ := h.slice
  have hp := h.pos
  generalize L.length = n at hc hp
  have hn : ((n : Int) == 0) = false := by simpa using (by omega : ¬ n = 0)
  clear hp h
  go_enter Tryz.func66, Tryz.ntmps66
  go_wp2
  go_ret
  exact ⟨rfl, rfl⟩
set_option maxHeartbeats 400000 in
theorem isNone_yes {w : World} {v : Value} (h : NoP w v) :
    Calls Tryz.prog 66 #[v] w fun e w' => e = .returned (.bool true) ∧ w' = w := by
  rcases h with rfl | ⟨g, rfl, hc⟩
  · go_enter Tryz.func66, Tryz.ntmps66
    go_wp2
    go_ret
    exact ⟨rfl, rfl⟩
  · go_enter Tryz.func66, Tryz.ntmps66
    go_wp2
    go_ret
    exact ⟨rfl, rfl⟩

set_option maxHeartbeats 400000 in
theorem fault_none {w : World} {v : Value} (h : NoP w v) (f : Int) :
    Calls Tryz.prog 70 #[v, .int .i64 f] w fun e w' => e = .returned (.int .i64 10) ∧ w' = w := by
  have HH := hid h
  clear h
  go_enter Tryz.func70, Tryz.ntmps70
  go_wp2_with fail
  refine (isNone_yes HH.out).mono ?_
  rintro e w1 ⟨rfl, rfl⟩
  go_wp2
  go_ret
  exact ⟨rfl, rfl⟩
set_option maxHeartbeats 400000 in
theorem fault_out {w : World} {p b : Nat} {L : List Ds} (h : PP w p b L) (f : Int) (hf : ¬ (0 ≤ f ∧ f < L.length)) :
    Calls Tryz.prog 70 #[.pointer (some ⟨p, 0, none⟩), .int .i64 f] w fun e w' => e = .returned (.int .i64 2) ∧ w' = w := by
  have HH := hid h
  obtain ⟨c, hc⟩ := h.slice
  clear h
  generalize L.length = n at hc hf
  by_cases h0 : f < 0
  · go_enter Tryz.func70, Tryz.ntmps70
    go_wp2_with fail
    refine (isNone_no HH.out).mono ?_
    rintro e w1 ⟨rfl, rfl⟩
    go_wp2
    go_ret
    exact ⟨rfl, rfl⟩
  · have h1 : (n : Int) ≤ f := by omega
    clear hf
    go_enter Tryz.func70, Tryz.ntmps70
    go_wp2_with fail
    refine (isNone_no HH.out).mono ?_
    rintro e w1 ⟨rfl, rfl⟩
    go_wp2
    go_ret
    exact ⟨rfl, rfl⟩
set_option maxHeartbeats 400000 in
theorem fault_in {w : World} {p b : Nat} {L : List Ds} (h : PP w p b L) (i : Nat) (hi : i < L.length) :
    Calls Tryz.prog 70 #[.pointer (some ⟨p, 0, none⟩), .int .i64 i] w fun e w' => e = .returned (.int .i64 0) ∧ w' = w := by
  have HH := hid h
  obtain ⟨c, hc⟩ := h.slice
  clear h
  generalize L.length = n at hc hi
  have h0 : ¬ (i : Int) < 0 := by omega
  have h1 : ¬ (n : Int) ≤ i := by omega
  clear hi
  go_enter Tryz.func70, Tryz.ntmps70
  go_wp2_with fail
  refine (isNone_no HH.out).mono ?_
  rintro e w1 ⟨rfl, rfl⟩
  go_wp2
  go_ret
  exact ⟨rfl, rfl⟩

set_option maxHeartbeats 400000 in
theorem len_at {w : World} {p b : Nat} {L : List Ds} (h : PP w p b L) :
    Calls Tryz.prog 32 #[.pointer (some ⟨p, 0, none⟩)] w fun e w' => e = .returned (.int .i64 L.length) ∧ w' = w := by
  have HH := hid h
  obtain ⟨c, hc⟩ := h.slice
  clear h
  generalize L.length = n at hc ⊢
  go_enter Tryz.func32, Tryz.ntmps32
  go_wp2_with fail
  refine (isNone_no HH.out).mono ?_
  rintro e w1 ⟨rfl, rfl⟩
  go_wp2
  go_ret
  exact ⟨rfl, rfl⟩
set_option maxHeartbeats 400000 in
theorem len_none {w : World} {v : Value} (h : NoP w v) :
    Calls Tryz.prog 32 #[v] w fun e w' => e = .returned (.int .i64 0) ∧ w' = w := by
  have HH := hid h
  clear h
  go_enter Tryz.func32, Tryz.ntmps32
  go_wp2_with fail
  refine (isNone_yes HH.out).mono ?_
  rintro e w1 ⟨rfl, rfl⟩
  go_wp2
  go_ret
  exact ⟨rfl, rfl⟩
end Go.Proofs.YtpfmmlbakbhklaaGreatDoor.O
namespace Go.Proofs.YtpfmmlbakbhklaaGreatDoor.O
open Go.RowKit


set_option maxRecDepth 100000 in
set_option maxHeartbeats 1000000 in
theorem turn_clo (a0 a1 a2 a3 k o : Int) (B0 B1 : Nat) (w : World) (hT : Tab w) (h0 : w.cell? ⟨B0, 0, none⟩ = some (.int .i64 k)) (h1 : w.cell? ⟨B1, 0, none⟩ = some (.int .i64 o)) :
    Calls Tryz.prog 152 #[.agg #[.int .i64 a0, .int .i64 a1, .int .i64 a2, .int .i64 a3], .pointer (some ⟨B0, 0, none⟩), .pointer (some ⟨B1, 0, none⟩)] w fun x w' => x = .returned (two (nx ⟨a0, a1, a2, a3⟩ k o) (nxE ⟨a0, a1, a2, a3⟩ k o)) ∧ Below w.heap.size w w' := by
  have HT0 := hid hT
  clear hT
  have g0 : ((w.alloc (.cells #[.int .i64 a0, .int .i64 a1, .int .i64 a2, .int .i64 a3] 64)).alloc (.cells #[.int .i64 0, .int .i64 0, .int .i64 0, .int .i64 0] 64)).cell? ⟨B0, 0, none⟩ = some (.int .i64 k) := ((btwo w _ _).cell (p := ⟨B0, 0, none⟩) (World.block_lt_of_cell? w ⟨B0, 0, none⟩ h0)).trans h0
  have g1 : ((w.alloc (.cells #[.int .i64 a0, .int .i64 a1, .int .i64 a2, .int .i64 a3] 64)).alloc (.cells #[.int .i64 0, .int .i64 0, .int .i64 0, .int .i64 0] 64)).cell? ⟨B1, 0, none⟩ = some (.int .i64 o) := ((btwo w _ _).cell (p := ⟨B1, 0, none⟩) (World.block_lt_of_cell? w ⟨B1, 0, none⟩ h1)).trans h1
  clear h0 h1
  have hC := fun W (h : Tab W) => next_at ⟨a0, a1, a2, a3⟩ k o W h
  generalize nx ⟨a0, a1, a2, a3⟩ k o = d' at hC ⊢
  generalize nxE ⟨a0, a1, a2, a3⟩ k o = e' at hC ⊢
  have HC := hid hC
  clear hC
  obtain ⟨x0, x1, x2, x3⟩ := d'
  go_enter Tryz.func152, Tryz.ntmps152
  go_wp2_with fail
  refine (HC.out _ ((HT0.out.alloc _).alloc _)).mono ?_
  rintro x w1 ⟨rfl, hB⟩
  have a0' := stay hB (two_new w _ _).1
  have a1' := stay hB (two_new w _ _).2
  have HB := hid (bgo (btwo w _ _) hB)
  clear hB
  obtain ⟨p10, p11, p12, p13, q10, q11, q12, q13⟩ := four a1'
  have A1 := hid a1'
  clear a1' a0'
  (try unfold two)
  (try unfold dV)
  (try simp only [])
  go_wp2
  (try simp only [Exit.inBlock, Exit.then])
  refine bodyPost_ret (results_row_tmp rfl _ _ (w.heap.size + 1) _ rfl (run_loadVar_row _ _ 64 64 _ (0, 0) _ (put4 A1.out _ _ _ _) Tryz.underlying64 rfl size64)) rfl ?_
  exact ⟨rfl, bput HB.out (by omega) _ _ _ _⟩

end Go.Proofs.YtpfmmlbakbhklaaGreatDoor.O
namespace Go.Proofs.YtpfmmlbakbhklaaGreatDoor.O
open Go.RowKit


set_option maxRecDepth 100000 in
set_option maxHeartbeats 1000000 in
theorem turn_lay_out {w : World} {p b : Nat} {L : List Ds} (h : PP w p b L)  (B0 B1 : Nat)  (f : Int) (hf : ¬ (0 ≤ f ∧ f < L.length)) :
    Calls Tryz.prog 151 #[.pointer (some ⟨p, 0, none⟩), .int .i64 f, .func (.func 152) #[] #[.pointer (some ⟨B0, 0, none⟩), .pointer (some ⟨B1, 0, none⟩)]] w fun x w' => x = .returned (.int .i64 2) ∧ w' = w := by
  have HP := hid h
  have HF := hid hf
  clear h hf
  go_enter Tryz.func151, Tryz.ntmps151
  go_wp2_with fail
  refine (fault_out HP.out _ HF.out).mono ?_
  rintro x w1 ⟨rfl, rfl⟩
  go_wp2
  go_ret
  exact ⟨rfl, rfl⟩

set_option maxRecDepth 100000 in
set_option maxHeartbeats 1000000 in
theorem turn_lay_no {w : World} {p b : Nat} {L : List Ds} (h : PP w p b L) (k o : Int) (B0 B1 : Nat) (hT : Tab w) (h0 : w.cell? ⟨B0, 0, none⟩ = some (.int .i64 k)) (h1 : w.cell? ⟨B1, 0, none⟩ = some (.int .i64 o)) (i : Nat) (hi : i < L.length) (e' : Int) (hE : nxE (L.getD i zd) k o = e') (hne : (e' != 0) = true) :
    Calls Tryz.prog 151 #[.pointer (some ⟨p, 0, none⟩), .int .i64 i, .func (.func 152) #[] #[.pointer (some ⟨B0, 0, none⟩), .pointer (some ⟨B1, 0, none⟩)]] w fun x w' => x = .returned (.int .i64 e') ∧ Below w.heap.size w w' := by
  have HP := hid h
  obtain ⟨c, hc⟩ := h.slice
  obtain ⟨c0, c1, c2, c3⟩ := h.cells i hi
  have HI := hid hi
  have HL := hid h.top
  have hC := turn_clo (L.getD i zd).k (L.getD i zd).o (L.getD i zd).r (L.getD i zd).e k o B0 B1 w hT h0 h1
  have hE' : nxE ⟨(L.getD i zd).k, (L.getD i zd).o, (L.getD i zd).r, (L.getD i zd).e⟩ k o = e' := hE
  rw [hE'] at hC
  generalize nx ⟨(L.getD i zd).k, (L.getD i zd).o, (L.getD i zd).r, (L.getD i zd).e⟩ k o = d' at hC
  obtain ⟨x0, x1, x2, x3⟩ := d'
  have hn : L.length < 65536 := by have := HL.out; omega
  generalize (L.getD i zd).k = y0 at *
  generalize (L.getD i zd).o = y1 at *
  generalize (L.getD i zd).r = y2 at *
  generalize (L.getD i zd).e = y3 at *
  have HC := hid hC
  clear hT hC hE hE' h0 h1
  have HB0 := hid hi
  generalize hn' : L.length = n at hc hi hn
  have HN := hid hn'
  clear hn' h
  go_enter Tryz.func151, Tryz.ntmps151
  go_wp2_with fail
  refine (fault_in HP.out i HI.out).mono ?_
  rintro x w1 ⟨rfl, rfl⟩
  go_wp2_with fail
  refine HC.out.mono ?_
  rintro x w2 ⟨rfl, hB⟩
  have HB := hid hB
  clear hB
  (try unfold two)
  (try unfold dV)
  (try simp only [])
  go_wp2
  go_ret
  exact ⟨rfl, bgo HB.out (below_one _ _)⟩

set_option maxRecDepth 100000 in
set_option maxHeartbeats 1000000 in
theorem turn_lay_ok {w : World} {p b : Nat} {L : List Ds} (h : PP w p b L) (k o : Int) (B0 B1 : Nat) (hT : Tab w) (h0 : w.cell? ⟨B0, 0, none⟩ = some (.int .i64 k)) (h1 : w.cell? ⟨B1, 0, none⟩ = some (.int .i64 o)) (i : Nat) (hi : i < L.length) (e' : Int) (hE : nxE (L.getD i zd) k o = e') (hz : e' = 0) :
    Calls Tryz.prog 151 #[.pointer (some ⟨p, 0, none⟩), .int .i64 i, .func (.func 152) #[] #[.pointer (some ⟨B0, 0, none⟩), .pointer (some ⟨B1, 0, none⟩)]] w fun x w' => x = .returned (.int .i64 0) ∧ PP w' p b (L.set i (nxD (L.getD i zd) k o)) ∧ Bt b w w' := by
  have HP := hid h
  obtain ⟨c, hc⟩ := h.slice
  obtain ⟨c0, c1, c2, c3⟩ := h.cells i hi
  have HI := hid hi
  have HL := hid h.top
  have hC := turn_clo (L.getD i zd).k (L.getD i zd).o (L.getD i zd).r (L.getD i zd).e k o B0 B1 w hT h0 h1
  have hE' : nxE ⟨(L.getD i zd).k, (L.getD i zd).o, (L.getD i zd).r, (L.getD i zd).e⟩ k o = e' := hE
  rw [hE'] at hC
  subst hz
  have hD : nx ⟨(L.getD i zd).k, (L.getD i zd).o, (L.getD i zd).r, (L.getD i zd).e⟩ k o = nxD (L.getD i zd) k o := nx_ok hE'
  rw [hD] at hC
  generalize nxD (L.getD i zd) k o = d' at hC ⊢
  obtain ⟨x0, x1, x2, x3⟩ := d'
  have hn : L.length < 65536 := by have := HL.out; omega
  generalize (L.getD i zd).k = y0 at *
  generalize (L.getD i zd).o = y1 at *
  generalize (L.getD i zd).r = y2 at *
  generalize (L.getD i zd).e = y3 at *
  have HC := hid hC
  clear hT hC hE hE' hD h0 h1
  have HB0 := hid hi
  generalize hn' : L.length = n at hc hi hn
  have HN := hid hn'
  clear hn' h
  go_enter Tryz.func151, Tryz.ntmps151
  go_wp2_with fail
  refine (fault_in HP.out i HI.out).mono ?_
  rintro x w1 ⟨rfl, rfl⟩
  go_wp2_with fail
  refine HC.out.mono ?_
  rintro x w2 ⟨rfl, hB⟩
  have hP2 := (HP.out.below hB).alloc (.cells #[.int .i64 x0, .int .i64 x1, .int .i64 x2, .int .i64 x3] 64)
  have hQ := hP2
  have HB := hid hB
  clear hB c0 c1 c2 c3 hc
  (try unfold two)
  (try unfold dV)
  (try simp only [])
  obtain ⟨c, hc⟩ := hP2.slice
  rw [HN.out] at hc
  have f0 := hP2.free (i * 4)
  have f1 := hP2.free (i * 4 + 1)
  have f2 := hP2.free (i * 4 + 2)
  have f3 := hP2.free (i * 4 + 3)
  obtain ⟨c0, c1, c2, c3⟩ := hP2.cells i HI.out
  have a0 := heap_alloc_new w2 (.cells #[.int .i64 x0, .int .i64 x1, .int .i64 x2, .int .i64 x3] 64)
  obtain ⟨p00, p01, p02, p03, -, -, -, -⟩ := four a0
  have HQ := hid hQ
  clear hQ hP2 a0
  go_wp2_with fail
  go_region
  all_goals
    go_wp2
    go_ret
    refine ⟨rfl, (HQ.out.set i HI.out ⟨x0, x1, x2, x3⟩).drew, ?_⟩
    exact (Bt.of_below (bgo HB.out (below_one _ _))).trans (Bt.lay _ b i ⟨x0, x1, x2, x3⟩).drew

end Go.Proofs.YtpfmmlbakbhklaaGreatDoor.O
namespace Go.Proofs.YtpfmmlbakbhklaaGreatDoor.O
open Go.RowKit


set_option maxHeartbeats 1000000 in
theorem lay_none {w : World} {v : Value} (h : NoP w v) (f : Int) (c : Value) :
    Calls Tryz.prog 151 #[v, .int .i64 f, c] w fun x w' => x = .returned (.int .i64 10) ∧ w' = w := by
  have H2 := hid h
  clear h
  go_enter Tryz.func151, Tryz.ntmps151
  go_wp2_with fail
  refine (fault_none H2.out _).mono ?_
  rintro x w1 ⟨rfl, rfl⟩
  go_wp2
  go_ret
  exact ⟨rfl, rfl⟩

set_option maxRecDepth 100000 in
set_option maxHeartbeats 1000000 in
theorem turn_at {w : World} {p b : Nat} {L : List Ds} (h : PP w p b L) (f k o : Int) (hT : Tab w) :
    Calls Tryz.prog 112 #[.pointer (some ⟨p, 0, none⟩), .int .i64 f, .int .i64 k, .int .i64 o] w fun x w' => x = .returned (.int .i64 (tE L f k o)) ∧ PP w' p b (tL L f k o) ∧ Bt b w w' := by
  obtain ⟨u0, u1⟩ := two_new w (.cells #[.int .i64 k] 3) (.cells #[.int .i64 o] 3)
  have k0 := cell_of (i := 0) (v := .int .i64 k) u0 rfl
  have k1 := cell_of (i := 0) (v := .int .i64 o) u1 rfl
  have hB := btwo w (.cells #[.int .i64 k] 3) (.cells #[.int .i64 o] 3)
  have hP := (h.alloc (.cells #[.int .i64 k] 3)).alloc (.cells #[.int .i64 o] 3)
  have HX : Hid (∀ (R : Ending → World → Prop), (∀ x w', x = .returned (.int .i64 (tE L f k o)) → PP w' p b (tL L f k o) → Bt b ((w.alloc (.cells #[.int .i64 k] 3)).alloc (.cells #[.int .i64 o] 3)) w' → R x w') → Calls Tryz.prog 151 #[.pointer (some ⟨p, 0, none⟩), .int .i64 f, .func (.func 152) #[] #[.pointer (some ⟨w.heap.size, 0, none⟩), .pointer (some ⟨w.heap.size + 1, 0, none⟩)]] ((w.alloc (.cells #[.int .i64 k] 3)).alloc (.cells #[.int .i64 o] 3)) R) := by
    intro R hR
    have hT' : Tab ((w.alloc (.cells #[.int .i64 k] 3)).alloc (.cells #[.int .i64 o] 3)) := (hT.alloc _).alloc _
    by_cases hf : 0 ≤ f ∧ f < L.length
    · obtain ⟨i, rfl⟩ := Int.eq_ofNat_of_zero_le hf.1
      have hi : i < L.length := by omega
      have e1 : tE L (i : Int) k o = nxE (L.getD i zd) k o := if_pos hf
      by_cases hz : nxE (L.getD i zd) k o = 0
      · have e2 : tL L (i : Int) k o = L.set i (nxD (L.getD i zd) k o) := if_pos (e1.trans hz)
        rw [e1, e2, hz] at hR
        exact (turn_lay_ok hP k o _ _ hT' k0 k1 i hi _ hz rfl).mono fun x w' ⟨a, b, c⟩ => hR x w' a b c
      · have e2 : tL L (i : Int) k o = L := if_neg (by rw [e1]; exact hz)
        rw [e1, e2] at hR
        exact (turn_lay_no hP k o _ _ hT' k0 k1 i hi _ rfl (by simpa using hz)).mono fun x w' ⟨a, b⟩ => hR x w' a (hP.below b) (Bt.of_below b)
    · have e1 : tE L f k o = 2 := if_neg hf
      have e2 : tL L f k o = L := if_neg (by rw [e1]; decide)
      rw [e1, e2] at hR
      refine (turn_lay_out hP _ _ f hf).mono ?_
      rintro x w' ⟨a, rfl⟩
      exact hR x _ a hP (Bt.refl _ _)
  have HB := hid hB
  clear hB hP h hT u0 u1 k0 k1
  go_enter Tryz.func112, Tryz.ntmps112
  go_wp2_with fail
  refine HX.out _ ?_
  rintro x w' rfl hP' hB'
  go_wp2
  go_ret
  exact ⟨rfl, hP', (Bt.of_below HB.out).trans hB'⟩
set_option maxHeartbeats 1000000 in
theorem turn_none {w : World} {v : Value} (h : NoP w v) (f k o : Int) :
    Calls Tryz.prog 112 #[v, .int .i64 f, .int .i64 k, .int .i64 o] w fun x w' => x = .returned (.int .i64 10) ∧ Below w.heap.size w w' := by
  have hB := btwo w (.cells #[.int .i64 k] 3) (.cells #[.int .i64 o] 3)
  have HX := hid (lay_none (h.below hB) f (.func (.func 152) #[] #[.pointer (some ⟨w.heap.size, 0, none⟩), .pointer (some ⟨w.heap.size + 1, 0, none⟩)]))
  have HB := hid hB
  clear hB h
  go_enter Tryz.func112, Tryz.ntmps112
  go_wp2_with fail
  refine HX.out.mono ?_
  rintro x w' ⟨rfl, rfl⟩
  go_wp2
  go_ret
  exact ⟨rfl, HB.out⟩

end Go.Proofs.YtpfmmlbakbhklaaGreatDoor.O
namespace Go.Proofs.YtpfmmlbakbhklaaGreatDoor.O
open Go.RowKit Go.Shelf

attribute [local go_sem] Oper.semAt_some

/-- Whatever lay below n is as it was, but for the block c. -/
structure Kc (c n : Nat) (w w' : World) : Prop where
  os : w'.os = w.os
  tape : w'.tape = w.tape
  output : w'.output = w.output
  size : w.heap.size ≤ w'.heap.size
  block : ∀ k, k < n → k ≠ c → w'.heap[k]? = w.heap[k]?
theorem Kc.refl (c n : Nat) (w : World) : Kc c n w w := ⟨rfl, rfl, rfl, Nat.le_refl _, fun _ _ _ => rfl⟩
theorem Kc.trans {c n : Nat} {x y z : World} (h : Kc c n x y) (k : Kc c n y z) : Kc c n x z :=
  ⟨k.os.trans h.os, k.tape.trans h.tape, k.output.trans h.output, Nat.le_trans h.size k.size, fun i hi a => (k.block i hi a).trans (h.block i hi a)⟩
theorem Kc.of_below {c n : Nat} {w w' : World} (h : Below n w w') : Kc c n w w' := ⟨h.os, h.tape, h.output, h.size, fun k hk _ => h.block k hk⟩
theorem Kc.below {c n m : Nat} {w w' : World} (h : Kc c n w w') (hm : m ≤ n) (hc : m ≤ c) : Below m w w' := ⟨h.os, h.tape, h.output, h.size, fun k hk => h.block k (by omega) (by omega)⟩
theorem Kc.setCell (c n : Nat) (w : World) (i : Nat) (u : Value) : Kc c n w (w.setCell ⟨c, i, none⟩ u) :=
  ⟨rfl, rfl, rfl, by simp [World.setCell], fun k _ h => Below.heap_setCell w _ u k h⟩
theorem Kc.cell {c n : Nat} {w w' : World} (h : Kc c n w w') {p : Addr} (hp : p.block < n) (hc : p.block ≠ c) : w'.cell? p = w.cell? p := World.cell?_of_block (h.block p.block hp hc)
theorem Kc.pool {c n : Nat} {t u : TypeId} {w w' : World} (h : Kc c n w w') {p b : Nat} {L : List Ds} (hP : IsP t u w p b L) (h1 : p < n) (h2 : b < n) (h3 : p ≠ c) (h4 : b ≠ c) : IsP t u w' p b L :=
  hP.keep (h.block p h1 h3) (h.block b h2 h4)
theorem Kc.putObj {c n : Nat} (W : World) (l : Nat) (o' : Obj) (hl : n ≤ l) : Kc c n W (W.putObj l o') :=
  have g := grownBy_putObj' W l o'
  ⟨g.os, g.tape, g.output, g.size, fun k hk _ => by
    by_cases h : k < W.heap.size
    · exact g.block k h (by simp; omega)
    · have h1 : W.heap.size ≤ k := by omega
      have h2 : (W.putObj l o').heap.size = W.heap.size := by simp [World.putObj]
      rw [Array.getElem?_eq_none h1, Array.getElem?_eq_none (by omega)]⟩
theorem kcK_b {c : Nat} {w : World} (W : World) (l : Nat) (o o' : Obj) (hl : w.heap.size ≤ l) (_ : W.heap[l]? = some o) (_ : o.isCells = false) (_ : o.isWalk = false) : Kc c w.heap.size W (W.putObj l o') := Kc.putObj W l o' hl
theorem grown_of_below {w w' : World} (h : Below w.heap.size w w') : w.grownBy w' none := ⟨h.os, h.tape, h.output, h.size, fun k hk _ => h.block k hk⟩

set_option maxHeartbeats 1000000 in
theorem those_in (n : Nat) (q : Option Addr) (g B : Nat) (w : World) :
    CallsIn Fence.wide n Tryz.prog 68 #[.pointer q, .func (.func g) #[] #[.pointer (some ⟨B, 0, none⟩)]] w fun e w' => e = .returned (.func (.func 109) #[] #[.pointer (some ⟨w.heap.size, 0, none⟩), .pointer (some ⟨w.heap.size + 1, 0, none⟩)]) ∧ w' = (w.alloc (.cells #[.pointer q] 32)).alloc (.cells #[.func (.func g) #[] #[.pointer (some ⟨B, 0, none⟩)]] 133) := by
  refine callsIn_of_wp Tryz.func68 rfl trivial ?_ rfl
  simp only [Tryz.ntmps68, List.size_toArray, List.length_cons, List.length_nil, Nat.reduceAdd, Nat.reduceSub, Array.replicate_succ, Array.replicate_zero, List.push_toArray, List.append_toArray, List.nil_append, List.cons_append]
  gi_wp2
  go_ret
  exact ⟨rfl, rfl⟩

set_option maxHeartbeats 1000000 in
theorem ofK_in (n : Nat) (k : Int) (w : World) :
    CallsIn Fence.wide n Tryz.prog 69 #[.int .i64 k] w fun e w' => e = .returned (.func (.func 110) #[] #[.pointer (some ⟨w.heap.size, 0, none⟩)]) ∧ w' = w.alloc (.cells #[.int .i64 k] 3) := by
  refine callsIn_of_wp Tryz.func69 rfl trivial ?_ rfl
  simp only [Tryz.ntmps69, List.size_toArray, List.length_cons, List.length_nil, Nat.reduceAdd, Nat.reduceSub, Array.replicate_succ, Array.replicate_zero, List.push_toArray, List.append_toArray, List.nil_append, List.cons_append]
  gi_wp2
  go_ret
  exact ⟨rfl, rfl⟩

set_option maxHeartbeats 1000000 in
theorem meantK_any (a0 a1 a2 a3 k : Int) (B : Nat) (w : World) (hc : w.cell? ⟨B, 0, none⟩ = some (.int .i64 k)) :
    Calls Tryz.prog 110 #[.agg #[.int .i64 a0, .int .i64 a1, .int .i64 a2, .int .i64 a3], .pointer (some ⟨B, 0, none⟩)] w fun e w' => e = .returned (.bool (isK k ⟨a0, a1, a2, a3⟩)) ∧ Below w.heap.size w w' := by
  have g : (w.alloc (.cells #[.int .i64 a0, .int .i64 a1, .int .i64 a2, .int .i64 a3] 64)).cell? ⟨B, 0, none⟩ = some (.int .i64 k) := ((below_one w _).cell (p := ⟨B, 0, none⟩) (World.block_lt_of_cell? w ⟨B, 0, none⟩ hc)).trans hc
  have hB := hid (below_one w (.cells #[.int .i64 a0, .int .i64 a1, .int .i64 a2, .int .i64 a3] 64))
  clear hc
  go_enter Tryz.func110, Tryz.ntmps110
  go_wp2
  go_ret
  exact ⟨rfl, hB.out⟩

set_option maxRecDepth 100000 in
set_option maxHeartbeats 2000000 in
theorem thoseK_in (n : Nat) (hn : 1 ≤ n) (l Bp Bm Bk c n₁ p b : Nat) (L : List Ds) (k : Int) (J Jx : List Nat → World → Prop)
    (hJ : ∀ pre A B, J pre A → Below A.heap.size A B → J pre B)
    (hY : ∀ pre (x : Nat) W, J pre W → pre.length < (wh (isK k) L).length → YieldAt Fence.wide (n - 1) Tryz.prog l #[.int .i64 (x : Nat)] W fun e W' =>
      (e = .returned (.bool true) ∧ J (pre ++ [x]) W' ∧ Kc c n₁ W W') ∨ (e = .returned (.bool false) ∧ Jx (pre ++ [x]) W'))
    (W : World) (hBp : W.cell? ⟨Bp, 0, none⟩ = some (.pointer (some ⟨p, 0, none⟩))) (hBm : W.cell? ⟨Bm, 0, none⟩ = some (.func (.func 110) #[] #[.pointer (some ⟨Bk, 0, none⟩)])) (hBk : W.cell? ⟨Bk, 0, none⟩ = some (.int .i64 k)) (hP : PP W p b L)
    (hlt : (Bm < n₁ ∧ Bk < n₁ ∧ p < n₁ ∧ b < n₁) ∧ Bm ≠ c ∧ Bk ≠ c ∧ p ≠ c ∧ b ≠ c) (hn₁ : n₁ ≤ W.heap.size) (h0 : J [] W) :
    CallsIn Fence.wide n Tryz.prog 109 #[.func (.yield l) #[] #[], .pointer (some ⟨Bp, 0, none⟩), .pointer (some ⟨Bm, 0, none⟩)] W fun e W' => (∃ v, e = .returned v) ∧
      ((∃ ys, ys = wh (isK k) L ∧ J ys W') ∨ (∃ pre, pre <+: wh (isK k) L ∧ Jx pre W')) := by
  have HP := hid hP
  have HY := hid hY
  have HJ := hid hJ
  have HLT := hid hlt
  have HM := hid hBm
  have HK := hid hBk
  have HN := hid hn₁
  have HTop := hid hP.top
  obtain ⟨cc, hc⟩ := hP.slice
  have hnL : L.length < 65536 := by have := HTop.out; omega
  generalize hq : L.length = N at hc hnL
  have HQ := hid hq
  clear hP hY hJ hlt hBm hBk hn₁ hq
  refine callsIn_of_wp Tryz.func109 rfl trivial ?_ rfl
  simp only [Tryz.ntmps109, List.size_toArray, List.length_cons, List.length_nil, Nat.reduceAdd, Nat.reduceSub, Array.replicate_succ, Array.replicate_zero, List.push_toArray, List.append_toArray, List.nil_append, List.cons_append]
  gi_wp2_with fail
  refine ⟨trivial, (callsIn_wide.2 (isNone_no HP.out)).mono ?_⟩
  rintro e w' ⟨rfl, rfl⟩
  gi_wp2
  gi_loopw [13] (fun i wr => ∃ j : Nat, j ≤ N ∧ i = .int .i64 (j : Nat) ∧ J (upW (isK k) L j) wr ∧ Kc c n₁ w' wr)
    (fun i _ => N - (intOf i).toNat)
  case atStart =>
    exact ⟨0, Nat.zero_le _, rfl, h0, Kc.refl _ _ _⟩
  case round =>
    obtain ⟨j, hj, rfl, hJs, hKs⟩ := hrel
    have HJs := hid hJs
    have HKs := hid hKs
    clear hJs
    by_cases hjN : j < N
    · have hjL : Hid (j < L.length) := by rw [HQ.out]; exact hjN
      have hPr := hKs.pool HP.out HLT.out.1.2.2.1 HLT.out.1.2.2.2 HLT.out.2.2.2.1 HLT.out.2.2.2.2
      have hMr := (hKs.cell (p := ⟨Bm, 0, none⟩) HLT.out.1.1 HLT.out.2.1).trans HM.out
      have hKr := (hKs.cell (p := ⟨Bk, 0, none⟩) HLT.out.1.2.1 HLT.out.2.2.1).trans HK.out
      have HNr : Hid (n₁ ≤ wr.heap.size) := Nat.le_trans HN.out hKs.size
      clear hKs
      obtain ⟨c0, c1, c2, c3⟩ := hPr.cells j hjL.out
      have hup : Hid (∀ (z : Bool), isK k ⟨(L.getD j zd).k, (L.getD j zd).o, (L.getD j zd).r, (L.getD j zd).e⟩ = z → upW (isK k) L (j + 1) = if z then upW (isK k) L j ++ [j] else upW (isK k) L j) := by
        rintro z rfl
        cases h : isK k ⟨(L.getD j zd).k, (L.getD j zd).o, (L.getD j zd).r, (L.getD j zd).e⟩
        · exact upW_no h
        · exact upW_yes h
      have hul : Hid (isK k ⟨(L.getD j zd).k, (L.getD j zd).o, (L.getD j zd).r, (L.getD j zd).e⟩ = true → (upW (isK k) L j).length < (wh (isK k) L).length) := fun h => upW_lt h hjL.out
      generalize (L.getD j zd).k = x0 at c0 hup hul
      generalize (L.getD j zd).o = x1 at c1 hup hul
      generalize (L.getD j zd).r = x2 at c2 hup hul
      generalize (L.getD j zd).e = x3 at c3 hup hul
      have HPr := hid hPr
      clear hPr
      have oB := below_one wr (.cells #[.int .i64 x0, .int .i64 x1, .int .i64 x2, .int .i64 x3] 64)
      have hM1 := (oB.cell (p := ⟨Bm, 0, none⟩) (World.block_lt_of_cell? wr ⟨Bm, 0, none⟩ hMr)).trans hMr
      have HK1 := hid ((oB.cell (p := ⟨Bk, 0, none⟩) (World.block_lt_of_cell? wr ⟨Bk, 0, none⟩ hKr)).trans hKr)
      have HB1 := hid oB
      clear oB hMr hKr
      gi_wp2_with fail
      refine ⟨trivial, (callsIn_wide.2 (meantK_any _ _ _ _ k _ _ HK1.out)).mono ?_⟩
      rintro e w2 ⟨rfl, hB⟩
      have HB2 := hid (bgo HB1.out hB)
      clear hB
      cases hz : isK k ⟨x0, x1, x2, x3⟩
      · have HU := hid (hup.out _ hz)
        gi_wp2
        refine ⟨fun _ h => (by cases h), ?_⟩
        gi_wp2
        go_roundw
        case rel => exact ⟨j + 1, by omega, by go_num, by rw [HU.out]; exact HJ.out _ _ _ HJs.out HB2.out, HKs.out.trans (Kc.of_below (HB2.out.mono HNr.out))⟩
        case measure => simp [intOf]; omega
      · have HU := hid (hup.out _ hz)
        obtain ⟨fn, tmps, assign, body, hy, hR⟩ := HY.out _ j w2 (HJ.out _ _ _ HJs.out HB2.out) (hul.out hz)
        gi_wp2
        refine hR.mono ?_
        rintro e W3 (⟨rfl, hJ3, hk3⟩ | ⟨rfl, hJx3⟩)
        · gi_wp2
          go_roundw
          case rel => exact ⟨j + 1, by omega, by go_num, by rw [HU.out]; exact hJ3, (HKs.out.trans (Kc.of_below (HB2.out.mono HNr.out))).trans hk3⟩
          case measure => simp [intOf]; omega
        · gi_wp2
          refine bodyPost_ret (results_none rfl _ _ _) rfl ?_
          exact ⟨⟨_, rfl⟩, .inr ⟨_, by have := upW_pre (isK k) L (j + 1) hjL.out; rw [HU.out] at this; exact this, hJx3⟩⟩
    · have hjj : j = N := by omega
      subst hjj
      have hA : upW (isK k) L j = wh (isK k) L := by rw [← HQ.out]; exact upW_all _ _
      have HA := hid hA
      clear hA
      gi_wp2
      go_end0
      exact ⟨⟨_, rfl⟩, .inl ⟨_, HA.out, HJs.out⟩⟩

set_option maxHeartbeats 1000000 in
theorem thoseK_none (n : Nat) (hn : 1 ≤ n) (l Bp Bm : Nat) (v : Option Addr) (J : List Nat → World → Prop) (W : World) (hBp : W.cell? ⟨Bp, 0, none⟩ = some (.pointer v)) (hv : NoP W (.pointer v)) (h0 : J [] W) :
    CallsIn Fence.wide n Tryz.prog 109 #[.func (.yield l) #[] #[], .pointer (some ⟨Bp, 0, none⟩), .pointer (some ⟨Bm, 0, none⟩)] W fun e W' => (∃ v, e = .returned v) ∧ J [] W' := by
  have HV := hid hv
  clear hv
  refine callsIn_of_wp Tryz.func109 rfl trivial ?_ rfl
  simp only [Tryz.ntmps109, List.size_toArray, List.length_cons, List.length_nil, Nat.reduceAdd, Nat.reduceSub, Array.replicate_succ, Array.replicate_zero, List.push_toArray, List.append_toArray, List.nil_append, List.cons_append]
  gi_wp2_with fail
  refine ⟨trivial, (callsIn_wide.2 (isNone_yes HV.out)).mono ?_⟩
  rintro e w' ⟨rfl, rfl⟩
  gi_wp2
  refine bodyPost_ret (results_none rfl _ _ _) rfl ?_
  exact ⟨⟨_, rfl⟩, h0⟩

/-- The value that those hands back, as the caller's law takes it. -/
theorem thoseK_stops (n : Nat) (hn : 1 ≤ n) (Bp Bm Bk c p b : Nat) (L : List Ds) (k : Int) (w : World) (hBp : w.cell? ⟨Bp, 0, none⟩ = some (.pointer (some ⟨p, 0, none⟩))) (hBm : w.cell? ⟨Bm, 0, none⟩ = some (.func (.func 110) #[] #[.pointer (some ⟨Bk, 0, none⟩)])) (hBk : w.cell? ⟨Bk, 0, none⟩ = some (.int .i64 k)) (hP : PP w p b L) (hne : Bm ≠ c ∧ Bk ≠ c ∧ p ≠ c ∧ b ≠ c) (encs : Nat → Array Value) (henc : ∀ x : Nat, encs x = #[.int .i64 (x : Nat)]) :
    SeqStopsK Fence.wide n Tryz.prog 109 #[.pointer (some ⟨Bp, 0, none⟩), .pointer (some ⟨Bm, 0, none⟩)] encs (Kc c w.heap.size) (fun ys => ys = wh (isK k) L) (fun pre => pre <+: wh (isK k) L) (wh (isK k) L).length w := fun l J Jx W hW hJ _ hY h0 => by
  have q1 := World.block_lt_of_cell? w ⟨Bm, 0, none⟩ hBm
  have q2 := World.block_lt_of_cell? w ⟨Bk, 0, none⟩ hBk
  refine thoseK_in n hn l Bp Bm Bk c w.heap.size p b L k J Jx (fun pre A B hA hB => hJ pre A B none hA (grown_of_below hB) (by simp)) (fun pre x W1 a b => ?_) W
    ((hW.cell (p := ⟨Bp, 0, none⟩) (World.block_lt_of_cell? w ⟨Bp, 0, none⟩ hBp)).trans hBp) ((hW.cell (p := ⟨Bm, 0, none⟩) q1).trans hBm) ((hW.cell (p := ⟨Bk, 0, none⟩) q2).trans hBk) (hP.below hW) ⟨⟨q1, q2, hP.lt⟩, hne⟩ hW.size h0
  rw [← henc x]
  exact hY pre x W1 a b

set_option maxHeartbeats 1000000 in
theorem thoseO_none (n : Nat) (hn : 1 ≤ n) (l Bp Bm : Nat) (v : Option Addr) (J : List Nat → World → Prop) (W : World) (hBp : W.cell? ⟨Bp, 0, none⟩ = some (.pointer v)) (hv : NoP W (.pointer v)) (h0 : J [] W) :
    CallsIn Fence.wide n Tryz.prog 109 #[.func (.yield l) #[] #[], .pointer (some ⟨Bp, 0, none⟩), .pointer (some ⟨Bm, 0, none⟩)] W fun e W' => (∃ v, e = .returned v) ∧ J [] W' := by
  have HV := hid hv
  clear hv
  refine callsIn_of_wp Tryz.func109 rfl trivial ?_ rfl
  simp only [Tryz.ntmps109, List.size_toArray, List.length_cons, List.length_nil, Nat.reduceAdd, Nat.reduceSub, Array.replicate_succ, Array.replicate_zero, List.push_toArray, List.append_toArray, List.nil_append, List.cons_append]
  gi_wp2_with fail
  refine ⟨trivial, (callsIn_wide.2 (isNone_yes HV.out)).mono ?_⟩
  rintro e w' ⟨rfl, rfl⟩
  gi_wp2
  refine bodyPost_ret (results_none rfl _ _ _) rfl ?_
  exact ⟨⟨_, rfl⟩, h0⟩

end Go.Proofs.YtpfmmlbakbhklaaGreatDoor.O
