/- A list that is lengthened and shortened at both ends, in a slice of its own, beside a deque; a push, a pop and a steal alone. Conditions: the deque's numbers are small. -/
import Derived.Test.YtmglacaikpcjhaaQ2
import Derived.Test.YtmglacaikpcjhaaL7
import Derived.Deep.AppendSrc
import Derived.Maps.AppendAt
namespace Go.Proofs.Ytmglacaikpcjhaa
open Go.RowKit

/-- The slice v holds the list L, in a block of its own. -/
def Wt (base : Nat) (w : World) (v : Value) (L : List Int) : Prop :=
  (v = .slice none 0 0 ∧ L = []) ∨ ∃ g off cap cur, v = .slice (some ⟨g, off, none⟩) L.length cap ∧ base ≤ g ∧ w.heap[g]? = some (.cells cur 38 (0, 0)) ∧ L.length ≤ cap ∧ off + cap ≤ cur.size ∧ cap ≤ maxLen ∧ ∀ k, k < L.length → cur[off + k]? = some (.int .u64 (L.getD k 0))
theorem Wt.keep {base : Nat} {w w' : World} {v : Value} {L : List Int} (h : Wt base w v L) (e : ∀ q, v.ownBlock = some q → w'.heap[q]? = w.heap[q]?) : Wt base w' v L := by
  rcases h with h | ⟨g, off, cap, cur, rfl, h1, h2, h3⟩
  · exact Or.inl h
  · exact Or.inr ⟨g, off, cap, cur, rfl, h1, (e g rfl).trans h2, h3⟩
theorem Wt.lt {base : Nat} {w : World} {v : Value} {L : List Int} (h : Wt base w v L) {q : Nat} (hq : v.ownBlock = some q) : q < w.heap.size ∧ base ≤ q := by
  rcases h with ⟨rfl, _⟩ | ⟨g, off, cap, cur, rfl, h1, h2, _⟩
  · cases hq
  · obtain rfl : g = q := by simpa [Value.ownBlock] using hq
    exact ⟨lt_of_block h2, h1⟩
theorem Wt.below {base : Nat} {w w' : World} {v : Value} {L : List Int} (h : Wt base w v L) (k : Below w.heap.size w w') : Wt base w' v L :=
  h.keep fun _ hq => k.block _ (h.lt hq).1
theorem Wt.len {base : Nat} {w : World} {v : Value} {L : List Int} (h : Wt base w v L) : ∃ q c, v = .slice q L.length c := by
  rcases h with ⟨rfl, rfl⟩ | ⟨g, off, cap, cur, rfl, _⟩
  · exact ⟨_, _, rfl⟩
  · exact ⟨_, _, rfl⟩
theorem Wt.head {base : Nat} {w : World} {v : Value} {x : Int} {L : List Int} (h : Wt base w v (x :: L)) :
    ∃ g off cap, v = .slice (some ⟨g, off, none⟩) (L.length + 1) cap ∧ L.length + 1 ≤ cap ∧ cap ≤ maxLen ∧ w.cell? ⟨g, off, none⟩ = some (.int .u64 x) ∧ (∀ q, (cap = 1 → q = off) → (cap ≠ 1 → q = off + 1) → Wt base w (.slice (some ⟨g, q, none⟩) L.length (cap - 1)) L) := by
  rcases h with ⟨_, h⟩ | ⟨g, off, cap, cur, rfl, h1, h2, h3, h4, h5, h6⟩
  · cases h
  · simp only [List.length_cons] at h3 h6 ⊢
    refine ⟨g, off, cap, rfl, h3, h5, ?_, fun q e1 e2 => Or.inr ⟨g, q, cap - 1, cur, rfl, h1, h2, by omega, ?_, by omega, fun k hk => ?_⟩⟩
    · have := h6 0 (by omega)
      exact cell_of h2 (by simpa [List.getD] using this)
    · by_cases c : cap = 1
      · rw [e1 c]; omega
      · rw [e2 c]; omega
    · have c : cap ≠ 1 := by omega
      have := h6 (k + 1) (by omega)
      rw [e2 c, show off + 1 + k = off + (k + 1) by omega, this]
      simp [List.getD]
theorem Wt.form {base : Nat} {w : World} {v : Value} {L : List Int} (h : Wt base w v L) (hL : 0 < L.length) : ∃ g off cap, v = .slice (some ⟨g, off, none⟩) L.length cap := by
  rcases h with ⟨_, rfl⟩ | ⟨g, off, cap, cur, rfl, _⟩
  · simp at hL
  · exact ⟨_, _, _, rfl⟩

theorem info38' : ∃ i, Try.prog.info? 38 = some i ∧ i.zero = some (.int .u64 0) ∧ i.size = 1 ∧ i.bytes = 8 := by
  have h : (Try.prog.info? 38).map (fun i => (i.zero, i.size, i.bytes)) = some (some (.int .u64 0), 1, 8) := by kernel_rfl
  obtain ⟨i, hi, hzz⟩ := Option.map_eq_some_iff.1 h
  simp only [Prod.mk.injEq] at hzz
  exact ⟨i, hi, hzz.1, hzz.2.1, hzz.2.2⟩
theorem wt_append {base : Nat} {w : World} {v : Value} {L : List Int} (h : Wt base w v L) (hL : L.length ≤ 1000) (hb : base ≤ w.heap.size) (x : Int) (a : Addr) (c : Nat) (ha : w.cell? a = some (.int .u64 x)) (ty : TypeId) :
    ∃ v' w', (Builtin.append_ #[55, 55] ty #[v, .slice (some a) 1 c]).run Try.prog w = .ok v' w' ∧ Wt base w' v' (L ++ [x]) ∧ w.grownBy w' v.ownBlock ∧ (v'.ownBlock = v.ownBlock ∨ v'.ownBlock = some w.heap.size) := by
  obtain ⟨i, hi, hz0, hz1, hz2⟩ := info38'
  have hsrc : Src Try.prog i.size 55 (.slice (some a) 1 c) 1 [.int .u64 x] w := Src.ofSlice w Try.underlying55 a 1 c [.int .u64 x] (by rw [hz1]; rfl)
    (fun j u hj => by
      rcases j with _ | j
      · obtain rfl : Value.int .u64 x = u := by simpa using hj
        simpa [Addr.add] using ha
      · simp at hj)
    (fun u hu => by obtain rfl := List.mem_singleton.1 hu; rfl)
  have grow : ∀ (bs : Option Addr) (cap : Nat), v = .slice bs L.length cap → cap < L.length + 1 → (∀ k, k < L.length → ∃ g off, bs = some ⟨g, off, none⟩ ∧ w.cell? ⟨g, off + k, none⟩ = some (.int .u64 (L.getD k 0))) →
      ∃ v' w', (Builtin.append_ #[55, 55] ty #[v, .slice (some a) 1 c]).run Try.prog w = .ok v' w' ∧ Wt base w' v' (L ++ [x]) ∧ w.grownBy w' v.ownBlock ∧ (v'.ownBlock = v.ownBlock ∨ v'.ownBlock = some w.heap.size) := by
    intro bs cap hv hcap hcell
    have hold : (Builtin.firstCells i.size L.length (.slice bs L.length cap)).run Try.prog w.drew = .ok (wd L).toArray w.drew := by
      by_cases h0 : L.length = 0
      · have hL0 : L = [] := List.eq_nil_of_length_eq_zero h0
        subst hL0
        simp only [List.length_nil, wd, List.map_nil]
        cases bs with
        | none => exact run_firstCells_none w.drew i.size 0 0 cap
        | some b => exact run_firstCells_some w.drew i.size 0 b 0 cap [] (by simp) (fun j u hj => by simp at hj)
      · obtain ⟨g, off, rfl, _⟩ := hcell 0 (by omega)
        refine run_firstCells_some w.drew i.size L.length ⟨g, off, none⟩ L.length cap (wd L) (by simp [wd, hz1]) (fun j u hj => ?_)
        have hjl : j < L.length := by
          have := (List.getElem?_eq_some_iff.1 hj).1
          simpa [wd] using this
        obtain ⟨g', off', e, hc⟩ := hcell j hjl
        simp only [Option.some.injEq, Addr.mk.injEq, and_true] at e
        obtain ⟨rfl, rfl⟩ := e
        have e2 : (wd L)[j]? = some (.int .u64 (L.getD j 0)) := by simp [wd, List.getD, hjl]
        rw [e2] at hj
        obtain rfl := Option.some.inj hj
        rw [Addr.add_lit]
        exact hc
    have hfit : Builtin.nextslicecap (L.length + 1) cap * i.bytes ≤ 281474976710656 := by
      have := nextslicecap_le hcap
      rw [hz2]; omega
    have hr := run_append_grow_src (P := Try.prog) w 55 55 ty 38 i (.int .u64 0) Try.underlying55 hi hz0 bs L.length cap (wd L) hold (.slice (some a) 1 c) 1 [.int .u64 x] hsrc hcap (by omega) hfit
    rw [← hv] at hr
    have hge := grownCap_ge w (L.length + 1) cap 38
    have hcm : grownCap w (L.length + 1) cap 38 ≤ maxLen := grownCap_le_maxLen w (L.length + 1) cap 38 (by unfold maxLen; omega)
    refine ⟨_, _, hr, Or.inr ⟨w.heap.size, 0, grownCap w (L.length + 1) cap 38, _, by simp, hb, heap_alloc_new w.drew _, by simpa using hge, ?_, hcm, fun k hk => ?_⟩, ⟨rfl, rfl, rfl, by simp, fun k hk _ => heap_alloc_old w.drew _ hk⟩, Or.inr rfl⟩
    · simp only [Array.size_append, List.size_toArray, size_zeroCells]
      simp [wd, Value.cells]
      omega
    · simp only [List.length_append, List.length_cons, List.length_nil] at hk
      have hk' : k < (wd L ++ [Value.int .u64 x]).toArray.size := by simp [wd]; omega
      rw [Nat.zero_add, Array.getElem?_append_left hk']
      by_cases q : k < L.length
      · simp [wd, List.getElem?_append_left, q, List.getD]
      · obtain rfl : k = L.length := by omega
        simp [wd, List.getD]
  rcases h with ⟨rfl, rfl⟩ | ⟨g, off, cap, cur, rfl, h1, h2, h3, h4, h5, h6⟩
  · exact grow none 0 rfl (by simp) (fun k hk => by simp at hk)
  · by_cases hroom : L.length + 1 ≤ cap
    · have hcs : off + L.length < cur.size := by omega
      have hr := run_append_room_src (P := Try.prog) w 55 55 ty 38 i Try.underlying55 hi g off L.length cap (.slice (some a) 1 c) 1 [.int .u64 x] hsrc hroom
        (fun j hj => by
          obtain rfl : j = 0 := by simpa using hj
          rw [hz1, Nat.mul_one, Nat.add_zero, cell_of h2 (Array.getElem?_eq_getElem hcs)]
          rfl)
        (fun j _ => free_of h2)
      rw [hz1, Nat.mul_one] at hr
      have hw : w.setCells g (off + L.length) [.int .u64 x] = w.setCell ⟨g, off + L.length, none⟩ (.int .u64 x) := rfl
      rw [hw] at hr
      refine ⟨_, _, hr, Or.inr ⟨g, off, cap, _, by simp, h1, heap_setCell_self h2 _, by simpa using hroom, by simpa using h4, h5, fun k hk => ?_⟩, ⟨rfl, rfl, rfl, by simp [World.setCell], fun k _ hne => Below.heap_setCell _ _ _ _ (fun e => hne (by simp [Value.ownBlock, e]))⟩, Or.inl rfl⟩
      simp only [List.length_append, List.length_cons, List.length_nil] at hk
      by_cases q : k < L.length
      · rw [Array.getElem?_setIfInBounds_ne (by omega), h6 k q]
        simp [List.getD, List.getElem?_append_left q]
      · obtain rfl : k = L.length := by omega
        rw [Array.getElem?_setIfInBounds_self_of_lt hcs]
        simp [List.getD]
    · refine grow (some ⟨g, off, none⟩) cap rfl (by omega) (fun k hk => ⟨g, off, rfl, cell_of h2 (h6 k hk)⟩)
theorem Wt.but {base p b : Nat} {w w' : World} {v : Value} {L : List Int} (h : Wt base w v L) (vp : v.ownBlock ≠ some p) (vb : v.ownBlock ≠ some b) (K : But p b w w') : Wt base w' v L :=
  h.keep fun q hq => K.block q (h.lt hq).1 (fun e => vp (e ▸ hq)) (fun e => vb (e ▸ hq))
theorem Wt.last {base : Nat} {w : World} {v : Value} {x : Int} {L : List Int} (h : Wt base w v (L ++ [x])) :
    ∃ g off cap, v = .slice (some ⟨g, off, none⟩) (L.length + 1) cap ∧ L.length + 1 ≤ cap ∧ cap ≤ maxLen ∧ w.cell? ⟨g, off + L.length, none⟩ = some (.int .u64 x) ∧ Wt base w (.slice (some ⟨g, off, none⟩) L.length cap) L := by
  rcases h with ⟨_, h⟩ | ⟨g, off, cap, cur, rfl, h1, h2, h3, h4, h5, h6⟩
  · simp at h
  · simp only [List.length_append, List.length_cons, List.length_nil] at h3 h6 ⊢
    refine ⟨g, off, cap, rfl, h3, h5, ?_, Or.inr ⟨g, off, cap, cur, rfl, h1, h2, by omega, h4, h5, fun k hk => ?_⟩⟩
    · have := h6 L.length (by omega)
      exact cell_of h2 (by simpa [List.getD] using this)
    · have := h6 k (by omega)
      rw [this]
      simp [List.getD, List.getElem?_append_left hk]

theorem ix_ne {n : Nat} {p q : Int} (h0 : p < q) (h1 : q - p < n) : ix n p ≠ ix n q := by
  intro e
  unfold ix at e
  have a0 := Int.emod_nonneg p (show (n : Int) ≠ 0 by omega)
  have b0 := Int.emod_nonneg q (show (n : Int) ≠ 0 by omega)
  have e2 : p % (n : Int) = q % (n : Int) := by omega
  have e3 := Int.emod_eq_emod_iff_emod_sub_eq_zero.1 e2.symm
  rw [Int.emod_eq_of_lt (by omega) h1] at e3
  omega

/-- A deque whose words hold the list L. -/
structure Es (w0 : World) (p b r n k : Nat) (w : World) (L : List Int) (s : St) (D : Dq) : Prop where
  kn : Kn w0 p b r 0 n w s
  rep : Rep 0 n s.xs D
  T0 : 0 ≤ D.T
  TB : D.B = D.T + L.length
  Bk : D.B ≤ k
  val : ∀ j, j < L.length → D.V (ix n (D.T + j)) = L.getD j 0
  len : L.length ≤ n
  so : SOk s
  co : Cnt s (40 * k)
def Ew (w0 : World) (p b r n k : Nat) (w : World) (L : List Int) : Prop := ∃ s D, Es w0 p b r n k w L s D
theorem Ew.c0 {w0 w : World} {p b r n k : Nat} {L : List Int} (h : Ew w0 p b r n k w L) : w.cell? ⟨r, 0, none⟩ = some (.int .i64 0) := by obtain ⟨s, D, h⟩ := h; exact h.kn.c0
theorem Ew.c1 {w0 w : World} {p b r n k : Nat} {L : List Int} (h : Ew w0 p b r n k w L) : w.cell? ⟨r, 1, none⟩ = some (.int .i64 n) := by obtain ⟨s, D, h⟩ := h; exact h.kn.c1
theorem Ew.bel {w0 w : World} {p b r n k : Nat} {L : List Int} (h : Ew w0 p b r n k w L) : Below w0.heap.size w0 w := by obtain ⟨s, D, h⟩ := h; exact h.kn.bel
theorem Ew.kn {w0 w : World} {p b r n k : Nat} {L : List Int} (h : Ew w0 p b r n k w L) : ∃ s, Kn w0 p b r 0 n w s := by obtain ⟨s, D, h⟩ := h; exact ⟨s, h.kn⟩
theorem Ew.len {w0 w : World} {p b r n k : Nat} {L : List Int} (h : Ew w0 p b r n k w L) : L.length ≤ n := by obtain ⟨s, D, h⟩ := h; exact h.len
theorem Ew.below {w0 w w' : World} {p b r n k : Nat} {L : List Int} (h : Ew w0 p b r n k w L) (K : Below w.heap.size w w') : Ew w0 p b r n k w' L := by
  obtain ⟨s, D, h⟩ := h; exact ⟨s, D, { h with kn := h.kn.below K }⟩
theorem Ew.keep {w0 w w' : World} {p b r n k : Nat} {L : List Int} (h : Ew w0 p b r n k w L) (hb : ∀ q, q < w.heap.size → q = p ∨ q = b ∨ q = r → w'.heap[q]? = w.heap[q]?) (hB : Below w0.heap.size w0 w') : Ew w0 p b r n k w' L := by
  obtain ⟨s, D, h⟩ := h
  have l := h.kn.mem.lt
  exact ⟨s, D, { h with kn := { h.kn with mem := h.kn.mem.keep (hb _ l.1 (Or.inl rfl)) (hb _ l.2 (Or.inr (Or.inl rfl))), deq := (hb _ (lt_of_block h.kn.deq) (Or.inr (Or.inr rfl))).trans h.kn.deq, bel := hB } }⟩
theorem qok_n {n : Nat} (n0 : 1 ≤ n) (n1 : n ≤ 64) : QOk 0 n := ⟨by omega, by omega, by omega, by omega⟩

theorem Ew.pop {w0 w w1 : World} {p b r n k g : Nat} {L : List Int} (h : Ew w0 p b r n k w L) (n0 : 1 ≤ n) (n1 : n ≤ 64) (hk : k ≤ 100000) (hx : IsTk w1 g (newG 0 n)) (hg : w.heap.size ≤ g) (K : Below w.heap.size w w1) :
    Calls Try.prog 25 #[.pointer (some ⟨p, 0, none⟩), .pointer (some ⟨g, 0, none⟩)] w1 fun e w' => ∃ v, e = .returned (.tuple #[.int .u64 v, .bool (decide (0 < L.length))]) ∧ (∀ M x, L = M ++ [x] → v = x) ∧ Ew w0 p b r n (k + 1) w' L.dropLast ∧ But p b w w' := by
  obtain ⟨s, D, h⟩ := h
  obtain ⟨hh, hkn, hr, hg0⟩ := h.kn.task hx hg K
  have hq := qok_n n0 n1
  refine (run_at hh (newG_ok hq) h.co (by unfold bnd; omega) h.so).mono ?_
  rintro e w2 ⟨rfl, T⟩
  have hB := h.Bk
  have hTB := h.TB
  have hT0 := h.T0
  have hp := pop_solo h.rep n0 n1 h.T0 (by omega) (by unfold lim; omega)
  obtain ⟨o1, _, o3⟩ := run_ok 10 h.so (newG_ok hq) h.co
  simp only [Int.natCast_zero] at hp
  have hkn2 := hkn.ran hr hg0 T
  have hbut : But p b w w2 := But3.but (But.of_below K) T.2 hg
  generalize run 10 s (newG 0 n) = R at *
  obtain ⟨s2, x2⟩ := R
  simp only [] at *
  have hlen : decide (¬ D.B ≤ D.T) = decide (0 < L.length) := by apply decide_eq_decide.2; omega
  rw [hlen] at hp
  refine ⟨resV x2, by rw [hp.is], ?_, ?_, hbut⟩
  · rintro M x rfl
    have := hp.vl (by simp)
    rw [this]
    have hv := h.val M.length (by simp)
    simp only [List.length_append, List.length_cons, List.length_nil] at hTB
    rw [show D.B - 1 = D.T + (M.length : Int) by omega, hv]
    simp [List.getD]
  · rcases List.eq_nil_or_concat L with rfl | ⟨M, x, rfl⟩
    · have e := hp.rep
      simp only [List.length_nil] at hTB
      rw [if_pos (by omega)] at e
      exact ⟨s2, D, hkn2, e, h.T0, h.TB, by omega, h.val, h.len, o1, o3.mono (by omega)⟩
    · have e := hp.rep
      simp only [List.concat_eq_append, List.length_append, List.length_cons, List.length_nil] at hTB e h
      rw [if_neg (by omega)] at e
      have hl := h.len
      simp only [List.length_append, List.length_cons, List.length_nil] at hl
      simp only [List.concat_eq_append, List.dropLast_concat]
      by_cases hM : D.T = D.B - 1
      · rw [if_pos hM] at e
        have hM0 : M = [] := List.eq_nil_of_length_eq_zero (by omega)
        subst hM0
        exact ⟨s2, _, hkn2, e, by simp only []; omega, by simp, by simp only []; omega, fun j hj => by simp at hj, by simp, o1, o3.mono (by omega)⟩
      · rw [if_neg hM] at e
        refine ⟨s2, _, hkn2, e, h.T0, by simp only []; omega, by simp only []; omega, fun j hj => ?_, by omega, o1, o3.mono (by omega)⟩
        have := h.val j (by simp; omega)
        simp only []
        rw [this]
        simp [List.getD, List.getElem?_append_left hj]
theorem Ew.steal {w0 w w1 : World} {p b r n k g : Nat} {L : List Int} (h : Ew w0 p b r n k w L) (n0 : 1 ≤ n) (n1 : n ≤ 64) (hk : k ≤ 100000) (hx : IsTk w1 g (newS 0 n)) (hg : w.heap.size ≤ g) (K : Below w.heap.size w w1) :
    Calls Try.prog 25 #[.pointer (some ⟨p, 0, none⟩), .pointer (some ⟨g, 0, none⟩)] w1 fun e w' => ∃ v, e = .returned (.tuple #[.int .u64 v, .bool (decide (0 < L.length))]) ∧ (∀ M x, L = x :: M → v = x) ∧ Ew w0 p b r n (k + 1) w' L.tail ∧ But p b w w' := by
  obtain ⟨s, D, h⟩ := h
  obtain ⟨hh, hkn, hr, hg0⟩ := h.kn.task hx hg K
  have hq := qok_n n0 n1
  refine (run_at hh (newS_ok hq) h.co (by unfold bnd; omega) h.so).mono ?_
  rintro e w2 ⟨rfl, T⟩
  have hB := h.Bk
  have hTB := h.TB
  have hT0 := h.T0
  have hp := steal_solo h.rep n0 n1 h.T0 (by omega) (by unfold lim; omega)
  obtain ⟨o1, _, o3⟩ := run_ok 10 h.so (newS_ok hq) h.co
  simp only [Int.natCast_zero] at hp
  have hkn2 := hkn.ran hr hg0 T
  have hbut : But p b w w2 := But3.but (But.of_below K) T.2 hg
  generalize run 10 s (newS 0 n) = R at *
  obtain ⟨s2, x2⟩ := R
  simp only [] at *
  have hlen : decide (¬ D.B ≤ D.T) = decide (0 < L.length) := by apply decide_eq_decide.2; omega
  rw [hlen] at hp
  refine ⟨resV x2, by rw [hp.is], ?_, ?_, hbut⟩
  · rintro M x rfl
    have := hp.vl (by simp)
    rw [this]
    have hv := h.val 0 (by simp)
    simpa [List.getD] using hv
  · cases L with
    | nil =>
      have e := hp.rep
      simp only [List.length_nil] at hTB
      rw [if_pos (by omega)] at e
      exact ⟨s2, D, hkn2, e, h.T0, h.TB, by omega, h.val, h.len, o1, o3.mono (by omega)⟩
    | cons x M =>
      have e := hp.rep
      have hl := h.len
      simp only [List.length_cons] at hTB hl
      rw [if_neg (by omega)] at e
      refine ⟨s2, _, hkn2, e, by simp only []; omega, by simp only [List.tail_cons]; omega, by simp only []; omega, fun j hj => ?_, by simp only [List.tail_cons]; omega, o1, o3.mono (by omega)⟩
      have := h.val (j + 1) (by simpa using hj)
      simp only [List.tail_cons]
      rw [show D.T + 1 + (j : Int) = D.T + ((j + 1 : Nat) : Int) by omega, this]
      simp [List.getD]
theorem Ew.push {w0 w w1 : World} {p b r n k g : Nat} {L : List Int} {v : Int} (h : Ew w0 p b r n k w L) (n0 : 1 ≤ n) (n1 : n ≤ 64) (hk : k ≤ 100000) (hv0 : 0 ≤ v) (hv1 : v ≤ 18446744073709551615) (hx : IsTk w1 g (newP 0 n v)) (hg : w.heap.size ≤ g) (K : Below w.heap.size w w1) :
    Calls Try.prog 25 #[.pointer (some ⟨p, 0, none⟩), .pointer (some ⟨g, 0, none⟩)] w1 fun e w' => ∃ u, e = .returned (.tuple #[.int .u64 u, .bool (decide (L.length < n))]) ∧ Ew w0 p b r n (k + 1) w' (if L.length < n then L ++ [v] else L) ∧ But p b w w' := by
  obtain ⟨s, D, h⟩ := h
  obtain ⟨hh, hkn, hr, hg0⟩ := h.kn.task hx hg K
  have hq := qok_n n0 n1
  refine (run_at hh (newP_ok hq hv0 hv1) h.co (by unfold bnd; omega) h.so).mono ?_
  rintro e w2 ⟨rfl, T⟩
  have hB := h.Bk
  have hTB := h.TB
  have hT0 := h.T0
  have hp := push_solo v h.rep n0 n1 h.T0 (by omega) (by unfold lim; omega)
  obtain ⟨o1, _, o3⟩ := run_ok 10 h.so (newP_ok hq hv0 hv1) h.co
  simp only [Int.natCast_zero] at hp
  have hkn2 := hkn.ran hr hg0 T
  have hbut : But p b w w2 := But3.but (But.of_below K) T.2 hg
  generalize run 10 s (newP 0 n v) = R at *
  obtain ⟨s2, x2⟩ := R
  simp only [] at *
  have hlen : decide (¬ (n : Int) ≤ D.B - D.T) = decide (L.length < n) := by apply decide_eq_decide.2; omega
  rw [hlen] at hp
  refine ⟨resV x2, by rw [hp.is], ?_, hbut⟩
  by_cases hr : L.length < n
  · have e := hp.rep
    rw [if_neg (by omega)] at e
    rw [if_pos hr]
    refine ⟨s2, _, hkn2, e, h.T0, by simp; omega, by simp only []; omega, fun j hj => ?_, by simp; omega, o1, o3.mono (by omega)⟩
    simp only [List.length_append, List.length_cons, List.length_nil] at hj
    simp only [upd]
    by_cases q : j = L.length
    · subst q
      rw [if_pos (by rw [hTB])]
      simp [List.getD]
    · rw [if_neg (ix_ne (by omega) (by omega)), h.val j (by omega)]
      simp [List.getD, List.getElem?_append_left (show j < L.length by omega)]
  · have e := hp.rep
    rw [if_pos (by omega)] at e
    rw [if_neg hr]
    exact ⟨s2, D, hkn2, e, h.T0, h.TB, by omega, h.val, h.len, o1, o3.mono (by omega)⟩

/-- A deque, and a list of what is in it. -/
structure Ff (w0 : World) (p b r n B : Nat) (w : World) (v : Value) (L : List Int) : Prop where
  qw : Ew w0 p b r n B w L
  wt : Wt w0.heap.size w v L
  vp : v.ownBlock ≠ some p
  vb : v.ownBlock ≠ some b
  vr : v.ownBlock ≠ some r
/-- Behind a push that had room: the list is lengthened. -/
theorem Ff.append {w0 w w2 w3 : World} {p b r n B : Nat} {v v' : Value} {L : List Int} {x : Int} (hq : Ew w0 p b r n B w2 (L ++ [x])) (hw : Wt w0.heap.size w v L) (vp : v.ownBlock ≠ some p) (vb : v.ownBlock ≠ some b) (vr : v.ownBlock ≠ some r)
    (h1 : Wt w0.heap.size w3 v' (L ++ [x])) (h2 : w2.grownBy w3 v.ownBlock) (h3 : v'.ownBlock = v.ownBlock ∨ v'.ownBlock = some w2.heap.size) : Ff w0 p b r n B w3 v' (L ++ [x]) := by
  obtain ⟨s, hkn⟩ := hq.kn
  have l := hkn.mem.lt
  have lr := lt_of_block hkn.deq
  refine ⟨hq.keep (fun q hq' hi => h2.block q hq' (fun e => ?_)) (hkn.bel.grown h2 hkn.bel.size (fun j e => (hw.lt e).2)), h1, ?_, ?_, ?_⟩
  · rcases hi with rfl | rfl | rfl
    · exact vp e.symm
    · exact vb e.symm
    · exact vr e.symm
  · rcases h3 with h | h
    · rw [h]; exact vp
    · rw [h]; intro e; have : w2.heap.size = p := by simpa using e
      omega
  · rcases h3 with h | h
    · rw [h]; exact vb
    · rw [h]; intro e; have : w2.heap.size = b := by simpa using e
      omega
  · rcases h3 with h | h
    · rw [h]; exact vr
    · rw [h]; intro e; have : w2.heap.size = r := by simpa using e
      omega
/-- An append of one word, at the list of a plain region's operations. -/
theorem wpList_append_wt {w : World} {base : Nat} {L : List Int} {ops : Array Oper} {rest : List Oper} {o : Oper} {a : Act} {Q : Exit → Act → World → Prop} (hgd : o.guard = none) (s x : Operand)
    (ho : o.op = .call { callee := .builtin .append, args := #[s, x], argTypes := #[55, 55] }) (v : Value) (hs : a.eval s = v) (H : Wt base w v L) (hL : L.length ≤ 1000) (hb : base ≤ w.heap.size)
    (y : Int) (ad : Addr) (c : Nat) (hx : a.eval x = .slice (some ad) 1 c) (ha : w.cell? ad = some (.int .u64 y))
    (h : ∀ v' w', Wt base w' v' (L ++ [y]) → w.grownBy w' v.ownBlock → (v'.ownBlock = v.ownBlock ∨ v'.ownBlock = some w.heap.size) → wpList Try.prog ops Q rest (a.put o.dst v') w') :
    wpList Try.prog ops Q (o :: rest) a w := by
  refine wpList_plain hgd fun K hK => ?_
  obtain ⟨v', w', hr, h2, h3, h5⟩ := wt_append H hL hb y ad c ha o.type
  unfold Oper.wp execOp
  simp only [ho, resolve, invoke, builtin, Sem.run_bind, Sem.run_pure, Result.andThen_ok, List.map_toArray, List.map_cons, List.map_nil, hs, hx, hr]
  exact hK _ _ (h v' w' h2 h3 h5)

end Go.Proofs.Ytmglacaikpcjhaa
