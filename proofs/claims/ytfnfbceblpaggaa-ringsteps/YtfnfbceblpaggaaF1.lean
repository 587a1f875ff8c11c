/- A list that is lengthened behind and shortened ahead, in a slice of its own, beside a ring. Of no function; no conditions. -/
import Derived.Test.YtfnfbceblpaggaaL7
import Derived.Deep.AppendSrc
import Derived.Maps.AppendAt
namespace Go.Proofs.Ytfnfbceblpaggaa
open Go.RowKit

theorem Qw.pushB {w0 w : World} {p b r ad n B : Nat} {L : List Int} (h : Qw w0 p b r ad n B w L) (ha : ad ≤ 65000) (hn : 2 ≤ n) (hn2 : n ≤ 64) (hB : B ≤ 100000) {v : Int} (h0 : 0 ≤ v) (h1 : v ≤ 18446744073709551615) :
    Calls Try.prog 28 #[.pointer (some ⟨p, 0, none⟩), .agg #[.int .i64 ad, .int .i64 n], .int .u64 v] w fun e w' => e = .returned (.bool (decide (L.length < n))) ∧ Qw w0 p b r ad n (B + 1) w' (if L.length < n then L ++ [v] else L) ∧ But p b w w' := by
  obtain ⟨s, R, f, h⟩ := h
  have hq := qok_of ha hn hn2
  refine (lawP h.kn.mem h.co (by unfold bnd; omega) h.so hq h0 h1).mono ?_
  rintro e w' ⟨rfl, T⟩
  have hsm : Sm B n R ap0 := ⟨h.i, by have := h.i; have := h.qt.le; omega, by simp, h.t, h.n, by simp⟩
  obtain ⟨e1, e2⟩ := rep_run (some v) hn 10 h.rep hsm (by omega)
  have hk := run_ok 10 h.so (newP_ok hq h0 h1) h.co
  have hx : newP ad n v = toPr ad n (some v) ap0 := rfl
  rw [hx] at T hk ⊢
  have hkn := h.kn.turn T
  rw [e1]
  have hlen := h.len
  by_cases hr : L.length < n
  · obtain ⟨a1, a2⟩ := qt_push h.qt v (by omega)
    rw [a1]
    rw [a2] at e2
    rw [if_pos hr]
    have hd : decide (L.length < n) = true := by simpa using hr
    rw [hd]
    refine ⟨rfl, ⟨_, _, _, hkn, e2, h.qt.push v (by omega), hk.1, hk.2.2.mono (by omega), fun j => ?_, by have := h.i; simp only []; omega, by have := h.n; omega, by simp; omega, fun k hk => ?_⟩, T.2⟩
    · have := h.t j
      have := h.i
      simp only [upd]
      split <;> omega
    · simp at hk
      simp only [upd]
      by_cases q : k = L.length
      · subst q
        rw [if_pos (by omega)]
        simp [List.getD]
      · rw [if_neg (by omega), h.val k (by omega)]
        simp [List.getD, List.getElem?_append_left (show k < L.length by omega)]
  · have hroom := h.qt.room
    obtain ⟨a1, a2⟩ := qt_full hn h.qt v (by omega)
    rw [a1]
    rw [a2] at e2
    rw [if_neg hr]
    have hd : decide (L.length < n) = false := by simpa using hr
    rw [hd]
    exact ⟨rfl, ⟨_, _, _, hkn, e2, h.qt, hk.1, hk.2.2.mono (by omega), fun j => by have := h.t j; omega, by have := h.i; omega, by have := h.n; omega, h.len, h.val⟩, T.2⟩
theorem Qw.popB {w0 w : World} {p b r ad n B : Nat} {L : List Int} (h : Qw w0 p b r ad n B w L) (ha : ad ≤ 65000) (hn : 2 ≤ n) (hn2 : n ≤ 64) (hB : B ≤ 100000) :
    Calls Try.prog 29 #[.pointer (some ⟨p, 0, none⟩), .agg #[.int .i64 ad, .int .i64 n]] w fun e w' => e = .returned (.tuple #[.int .u64 (L.getD 0 0), .bool (decide (0 < L.length))]) ∧ Qw w0 p b r ad n (B + 1) w' L.tail ∧ But p b w w' := by
  obtain ⟨s, R, f, h⟩ := h
  have hq := qok_of ha hn hn2
  refine (lawG h.kn.mem h.co (by unfold bnd; omega) h.so hq).mono ?_
  rintro e w' ⟨rfl, T⟩
  have hsm : Sm B n R ap0 := ⟨h.i, by have := h.i; have := h.qt.le; omega, by simp, h.t, h.n, by simp⟩
  obtain ⟨e1, e2⟩ := rep_run none hn 10 h.rep hsm (by omega)
  have hk := run_ok 10 h.so (newG_ok hq) h.co
  have hx : newG ad n = toPr ad n none ap0 := rfl
  rw [hx] at T hk ⊢
  have hkn := h.kn.turn T
  rw [e1]
  have hlen := h.len
  have hroom := h.qt.room
  cases L with
  | nil =>
    obtain ⟨a1, a2⟩ := qt_none hn h.qt (by simpa using hlen.symm)
    rw [a1]
    rw [a2] at e2
    exact ⟨rfl, ⟨_, _, _, hkn, e2, h.qt, hk.1, hk.2.2.mono (by omega), fun j => by have := h.t j; omega, by have := h.i; omega, by have := h.n; omega, h.len, h.val⟩, T.2⟩
  | cons v l =>
    simp only [List.length_cons] at hlen
    obtain ⟨a1, a2⟩ := qt_pop h.qt (by omega)
    rw [a1]
    rw [a2] at e2
    have hv := h.val 0 (by simp)
    have hv' : f R.o = v := by simpa [List.getD] using hv
    rw [hv']
    refine ⟨?_, ⟨_, _, _, hkn, e2, h.qt.pop (by omega), hk.1, hk.2.2.mono (by omega), fun j => ?_, by have := h.i; simp only []; omega, by have := h.n; omega, by simp; omega, fun k hk => ?_⟩, T.2⟩
    · simp [gotV, gotD, List.getD]
    · have := h.t j
      have := h.i
      have := h.n
      simp only [upd]
      split <;> omega
    · have := h.val (k + 1) (by simpa using hk)
      simp only [List.tail_cons]
      rw [show R.o + 1 + k = R.o + (k + 1) by omega, this]
      simp [List.getD]

theorem Qw.keep {w0 w w' : World} {p b r ad n B : Nat} {L : List Int} (h : Qw w0 p b r ad n B w L) (hb : ∀ q, q < w.heap.size → q = p ∨ q = b ∨ q = r → w'.heap[q]? = w.heap[q]?) (hB : Below w0.heap.size w0 w') : Qw w0 p b r ad n B w' L := by
  obtain ⟨s, R, f, h⟩ := h
  have l := h.kn.mem.lt
  refine ⟨s, R, f, { h with kn := { h.kn with mem := h.kn.mem.keep (hb _ l.1 (Or.inl rfl)) (hb _ l.2 (Or.inr (Or.inl rfl))), ring := (hb _ (lt_of_block h.kn.ring) (Or.inr (Or.inr rfl))).trans h.kn.ring, bel := hB } }⟩

/-- The slice v holds the list L, in a block of its own. -/
def Wt (base : Nat) (w : World) (v : Value) (L : List Int) : Prop :=
  (v = .slice none 0 0 ∧ L = []) ∨ ∃ g off cap cur, v = .slice (some ⟨g, off, none⟩) L.length cap ∧ base ≤ g ∧ w.heap[g]? = some (.cells cur 41 (0, 0)) ∧ L.length ≤ cap ∧ off + cap ≤ cur.size ∧ cap ≤ maxLen ∧ ∀ k, k < L.length → cur[off + k]? = some (.int .u64 (L.getD k 0))
theorem Wt.keep {base : Nat} {w w' : World} {v : Value} {L : List Int} (h : Wt base w v L) (e : ∀ q, v.ownBlock = some q → w'.heap[q]? = w.heap[q]?) : Wt base w' v L := by
  rcases h with h | ⟨g, off, cap, cur, rfl, h1, h2, h3⟩
  · exact Or.inl h
  · exact Or.inr ⟨g, off, cap, cur, rfl, h1, (e g rfl).trans h2, h3⟩
theorem Wt.lt {base : Nat} {w : World} {v : Value} {L : List Int} (h : Wt base w v L) {q : Nat} (hq : v.ownBlock = some q) : q < w.heap.size ∧ base ≤ q := by
  rcases h with ⟨rfl, _⟩ | ⟨g, off, cap, cur, rfl, h1, h2, _⟩
  · cases hq
  · obtain rfl : g = q := by simpa [Value.ownBlock] using hq
    exact ⟨lt_of_block h2, h1⟩
theorem Wt.below {base : Nat} {w w' : World} {v : Value} {L : List Int} (h : Wt base w v L) (k : Below w.heap.size w w') : Wt base w' v L :=
  h.keep fun _ hq => k.block _ (h.lt hq).1
theorem Wt.len {base : Nat} {w : World} {v : Value} {L : List Int} (h : Wt base w v L) : ∃ q c, v = .slice q L.length c := by
  rcases h with ⟨rfl, rfl⟩ | ⟨g, off, cap, cur, rfl, _⟩
  · exact ⟨_, _, rfl⟩
  · exact ⟨_, _, rfl⟩
theorem Wt.head {base : Nat} {w : World} {v : Value} {x : Int} {L : List Int} (h : Wt base w v (x :: L)) :
    ∃ g off cap, v = .slice (some ⟨g, off, none⟩) (L.length + 1) cap ∧ L.length + 1 ≤ cap ∧ cap ≤ maxLen ∧ w.cell? ⟨g, off, none⟩ = some (.int .u64 x) ∧ (∀ q, (cap = 1 → q = off) → (cap ≠ 1 → q = off + 1) → Wt base w (.slice (some ⟨g, q, none⟩) L.length (cap - 1)) L) := by
  rcases h with ⟨_, h⟩ | ⟨g, off, cap, cur, rfl, h1, h2, h3, h4, h5, h6⟩
  · cases h
  · simp only [List.length_cons] at h3 h6 ⊢
    refine ⟨g, off, cap, rfl, h3, h5, ?_, fun q e1 e2 => Or.inr ⟨g, q, cap - 1, cur, rfl, h1, h2, by omega, ?_, by omega, fun k hk => ?_⟩⟩
    · have := h6 0 (by omega)
      exact cell_of h2 (by simpa [List.getD] using this)
    · by_cases c : cap = 1
      · rw [e1 c]; omega
      · rw [e2 c]; omega
    · have c : cap ≠ 1 := by omega
      have := h6 (k + 1) (by omega)
      rw [e2 c, show off + 1 + k = off + (k + 1) by omega, this]
      simp [List.getD]
theorem Wt.form {base : Nat} {w : World} {v : Value} {L : List Int} (h : Wt base w v L) (hL : 0 < L.length) : ∃ g off cap, v = .slice (some ⟨g, off, none⟩) L.length cap := by
  rcases h with ⟨_, rfl⟩ | ⟨g, off, cap, cur, rfl, _⟩
  · simp at hL
  · exact ⟨_, _, _, rfl⟩

theorem info41' : ∃ i, Try.prog.info? 41 = some i ∧ i.zero = some (.int .u64 0) ∧ i.size = 1 ∧ i.bytes = 8 := by
  have h : (Try.prog.info? 41).map (fun i => (i.zero, i.size, i.bytes)) = some (some (.int .u64 0), 1, 8) := by kernel_rfl
  obtain ⟨i, hi, hzz⟩ := Option.map_eq_some_iff.1 h
  simp only [Prod.mk.injEq] at hzz
  exact ⟨i, hi, hzz.1, hzz.2.1, hzz.2.2⟩
theorem wt_append {base : Nat} {w : World} {v : Value} {L : List Int} (h : Wt base w v L) (hL : L.length ≤ 1000) (hb : base ≤ w.heap.size) (x : Int) (a : Addr) (c : Nat) (ha : w.cell? a = some (.int .u64 x)) (ty : TypeId) :
    ∃ v' w', (Builtin.append_ #[22, 22] ty #[v, .slice (some a) 1 c]).run Try.prog w = .ok v' w' ∧ Wt base w' v' (L ++ [x]) ∧ w.grownBy w' v.ownBlock ∧ (v'.ownBlock = v.ownBlock ∨ v'.ownBlock = some w.heap.size) := by
  obtain ⟨i, hi, hz0, hz1, hz2⟩ := info41'
  have hsrc : Src Try.prog i.size 22 (.slice (some a) 1 c) 1 [.int .u64 x] w := Src.ofSlice w Try.underlying22 a 1 c [.int .u64 x] (by rw [hz1]; rfl)
    (fun j u hj => by
      rcases j with _ | j
      · obtain rfl : Value.int .u64 x = u := by simpa using hj
        simpa [Addr.add] using ha
      · simp at hj)
    (fun u hu => by obtain rfl := List.mem_singleton.1 hu; rfl)
  have grow : ∀ (bs : Option Addr) (cap : Nat), v = .slice bs L.length cap → cap < L.length + 1 → (∀ k, k < L.length → ∃ g off, bs = some ⟨g, off, none⟩ ∧ w.cell? ⟨g, off + k, none⟩ = some (.int .u64 (L.getD k 0))) →
      ∃ v' w', (Builtin.append_ #[22, 22] ty #[v, .slice (some a) 1 c]).run Try.prog w = .ok v' w' ∧ Wt base w' v' (L ++ [x]) ∧ w.grownBy w' v.ownBlock ∧ (v'.ownBlock = v.ownBlock ∨ v'.ownBlock = some w.heap.size) := by
    intro bs cap hv hcap hcell
    have hold : (Builtin.firstCells i.size L.length (.slice bs L.length cap)).run Try.prog w.drew = .ok (wd L).toArray w.drew := by
      by_cases h0 : L.length = 0
      · have hL0 : L = [] := List.eq_nil_of_length_eq_zero h0
        subst hL0
        simp only [List.length_nil, wd, List.map_nil]
        cases bs with
        | none => exact run_firstCells_none w.drew i.size 0 0 cap
        | some b => exact run_firstCells_some w.drew i.size 0 b 0 cap [] (by simp) (fun j u hj => by simp at hj)
      · obtain ⟨g, off, rfl, _⟩ := hcell 0 (by omega)
        refine run_firstCells_some w.drew i.size L.length ⟨g, off, none⟩ L.length cap (wd L) (by simp [wd, hz1]) (fun j u hj => ?_)
        have hjl : j < L.length := by
          have := (List.getElem?_eq_some_iff.1 hj).1
          simpa [wd] using this
        obtain ⟨g', off', e, hc⟩ := hcell j hjl
        simp only [Option.some.injEq, Addr.mk.injEq, and_true] at e
        obtain ⟨rfl, rfl⟩ := e
        have e2 : (wd L)[j]? = some (.int .u64 (L.getD j 0)) := by simp [wd, List.getD, hjl]
        rw [e2] at hj
        obtain rfl := Option.some.inj hj
        rw [Addr.add_lit]
        exact hc
    have hfit : Builtin.nextslicecap (L.length + 1) cap * i.bytes ≤ 281474976710656 := by
      have := nextslicecap_le hcap
      rw [hz2]; omega
    have hr := run_append_grow_src (P := Try.prog) w 22 22 ty 41 i (.int .u64 0) Try.underlying22 hi hz0 bs L.length cap (wd L) hold (.slice (some a) 1 c) 1 [.int .u64 x] hsrc hcap (by omega) hfit
    rw [← hv] at hr
    have hge := grownCap_ge w (L.length + 1) cap 41
    have hcm : grownCap w (L.length + 1) cap 41 ≤ maxLen := grownCap_le_maxLen w (L.length + 1) cap 41 (by unfold maxLen; omega)
    refine ⟨_, _, hr, Or.inr ⟨w.heap.size, 0, grownCap w (L.length + 1) cap 41, _, by simp, hb, heap_alloc_new w.drew _, by simpa using hge, ?_, hcm, fun k hk => ?_⟩, ⟨rfl, rfl, rfl, by simp, fun k hk _ => heap_alloc_old w.drew _ hk⟩, Or.inr rfl⟩
    · simp only [Array.size_append, List.size_toArray, size_zeroCells]
      simp [wd, Value.cells]
      omega
    · simp only [List.length_append, List.length_cons, List.length_nil] at hk
      have hk' : k < (wd L ++ [Value.int .u64 x]).toArray.size := by simp [wd]; omega
      rw [Nat.zero_add, Array.getElem?_append_left hk']
      by_cases q : k < L.length
      · simp [wd, List.getElem?_append_left, q, List.getD]
      · obtain rfl : k = L.length := by omega
        simp [wd, List.getD]
  rcases h with ⟨rfl, rfl⟩ | ⟨g, off, cap, cur, rfl, h1, h2, h3, h4, h5, h6⟩
  · exact grow none 0 rfl (by simp) (fun k hk => by simp at hk)
  · by_cases hroom : L.length + 1 ≤ cap
    · have hcs : off + L.length < cur.size := by omega
      have hr := run_append_room_src (P := Try.prog) w 22 22 ty 41 i Try.underlying22 hi g off L.length cap (.slice (some a) 1 c) 1 [.int .u64 x] hsrc hroom
        (fun j hj => by
          obtain rfl : j = 0 := by simpa using hj
          rw [hz1, Nat.mul_one, Nat.add_zero, cell_of h2 (Array.getElem?_eq_getElem hcs)]
          rfl)
        (fun j _ => free_of h2)
      rw [hz1, Nat.mul_one] at hr
      have hw : w.setCells g (off + L.length) [.int .u64 x] = w.setCell ⟨g, off + L.length, none⟩ (.int .u64 x) := rfl
      rw [hw] at hr
      refine ⟨_, _, hr, Or.inr ⟨g, off, cap, _, by simp, h1, heap_setCell_self h2 _, by simpa using hroom, by simpa using h4, h5, fun k hk => ?_⟩, ⟨rfl, rfl, rfl, by simp [World.setCell], fun k _ hne => Below.heap_setCell _ _ _ _ (fun e => hne (by simp [Value.ownBlock, e]))⟩, Or.inl rfl⟩
      simp only [List.length_append, List.length_cons, List.length_nil] at hk
      by_cases q : k < L.length
      · rw [Array.getElem?_setIfInBounds_ne (by omega), h6 k q]
        simp [List.getD, List.getElem?_append_left q]
      · obtain rfl : k = L.length := by omega
        rw [Array.getElem?_setIfInBounds_self_of_lt hcs]
        simp [List.getD]
    · refine grow (some ⟨g, off, none⟩) cap rfl (by omega) (fun k hk => ⟨g, off, rfl, cell_of h2 (h6 k hk)⟩)
end Go.Proofs.Ytfnfbceblpaggaa
