/- What start returns: as many holders as are asked for, all of them new. Conditions: the lock's place is 0 to 65000. -/
import Derived.Test.YtidgajjahpbbdaaY1
import Derived.Maps.AppendAt
namespace Go.Proofs.Ytidgajjahpbbdaa
open Go.RowKit

theorem zkeep {w w' : World} (h : Below w.heap.size w w') (o : Obj) : Below w.heap.size w (w'.alloc o) := h.alloc h.size o
theorem info39 : ∃ i, Try.prog.info? 39 = some i ∧ i.zero = some (.pointer none) ∧ i.size = 1 ∧ i.bytes = 8 := by
  have h : (Try.prog.info? 39).map (fun i => (i.zero, i.size, i.bytes)) = some (some (.pointer none), 1, 8) := by kernel_rfl
  obtain ⟨i, hi, hzz⟩ := Option.map_eq_some_iff.1 h
  simp only [Prod.mk.injEq] at hzz
  exact ⟨i, hi, hzz.1, hzz.2.1, hzz.2.2⟩
abbrev lkO (a : Int) : Obj := .cells #[.int .i64 a] 61 (0, 0)
theorem one_cell (w : World) (g : Nat) : ∀ (j : Nat) (u : Value), [ptr g][j]? = some u → (w.alloc (.cells #[.pointer (some ⟨g, 0, none⟩)] 39)).cell? ((⟨w.heap.size, 0, none⟩ : Addr).add j) = some u := by
  intro j u hj
  rcases j with _ | j
  · obtain rfl : ptr g = u := by simpa using hj
    exact cell_of (heap_alloc_new w (.cells #[.pointer (some ⟨g, 0, none⟩)] 39 (0, 0))) rfl
  · simp at hj
theorem one_plain (g : Nat) : ∀ u ∈ [ptr g], u.oneCell' = true := by
  intro u hu
  obtain rfl := List.mem_singleton.1 hu
  rfl
/-- What is known when nobody is there yet. -/
theorem sy_first {w0 w : World} {p b : Nat} {s : St} (a : Int) (hM : Mem 59 w p b s) (hB : Below w0.heap.size w0 w) (p0 : w0.heap.size ≤ p) (b0 : w0.heap.size ≤ b) (G : Nat → Nat) (f : Nat → Ho) :
    Sy w0 (w.alloc (lkO a)) p b [(w.heap.size, lkO a)] s 0 G f (.slice none 0 0) := by
  have u := hM.lt
  have s1 := hB.size
  refine ⟨hM.below (below_alloc _ _), fun i hi => absurd hi (by omega), ⟨rfl, Or.inl ⟨rfl, rfl⟩⟩, ?_, bel_trans hB (below_alloc _ _), p0, b0, fun i hi => absurd hi (by omega), fun i hi => absurd hi (by omega), fun i hi => absurd hi (by omega), fun i j hi => absurd hi (by omega), by simp [Value.ownBlock], by simp [Value.ownBlock], fun i hi => absurd hi (by omega)⟩
  intro e he
  simp only [List.mem_cons, List.not_mem_nil, or_false] at he
  subst he
  exact ⟨heap_alloc_new _ _, ⟨by simp only []; omega, by simp only []; omega, fun i hi => absurd hi (by omega), by simp [Value.ownBlock]⟩, by simp only []; omega⟩
theorem Sy.bare {w0 w : World} {p b : Nat} {X : List (Nat × Obj)} {s : St} {k : Nat} {G : Nat → Nat} {f : Nat → Ho} {v : Value} (H : Sy w0 w p b X s k G f v) : Sy w0 w p b [] s k G f v :=
  { H with fix := fun e he => absurd he (by simp) }

set_option maxRecDepth 100000 in
set_option maxHeartbeats 2000000 in
theorem start_at {w0 w : World} {p b : Nat} {s : St} (a : Int) (n : Nat) (hM : Mem 59 w p b s) (hB : Below w0.heap.size w0 w) (p0 : w0.heap.size ≤ p) (b0 : w0.heap.size ≤ b) (h0 : 0 ≤ a) (h1 : a ≤ 65000) (hn : n ≤ 1000) :
    Calls Try.prog 10 #[.int .i64 a, .int .i64 n] w fun e w' => ∃ v G f, e = .returned (.tuple #[v, .bool true]) ∧ Sy w0 w' p b [] s n G f v ∧ (∀ i, i < n → f i = ⟨a, false, 0, 0⟩) ∧ (∀ i, i < n → w.heap.size ≤ G i) ∧ (∀ q, v.ownBlock = some q → w.heap.size ≤ q) ∧ Below w.heap.size w w' := by
  have HS0 := hid (sy_first a hM hB p0 b0 (fun _ => 0) (fun _ => ⟨a, false, 0, 0⟩))
  have HM := hid hM
  clear hM hB p0 b0
  go_enter Try.func10, Try.ntmps10
  go_wp2
  go_loopw [7, 8] (fun v i wr => ∃ (k : Nat) (G : Nat → Nat) (f : Nat → Ho), k ≤ n ∧ i = .int .i64 k ∧ Sy w0 wr p b [(w.heap.size, lkO a)] s k G f v ∧ (∀ i, i < k → f i = ⟨a, false, 0, 0⟩) ∧ (∀ i, i < k → w.heap.size ≤ G i) ∧ (∀ q, v.ownBlock = some q → w.heap.size ≤ q) ∧ Below w.heap.size w wr) (fun _ i _ => n - (intOf i).toNat)
  case atStart => exact ⟨0, _, _, Nat.zero_le _, rfl, HS0.out, fun i hi => absurd hi (by omega), fun i hi => absurd hi (by omega), fun q hq => by simp [Value.ownBlock] at hq, below_alloc _ _⟩
  case round =>
    obtain ⟨k, G, f, hk, rfl, hS, hf, hG, hv, hBw⟩ := hrel
    have HS := hid hS
    have HF := hid hf
    have HG := hid hG
    have HV := hid hv
    have HBw := hid hBw
    clear hS hf hG hv hBw HS0
    by_cases hlt : k < n
    · have cl := (HS.out.fix _ (List.mem_cons_self ..)).1
      have l0 : wr.cell? ⟨w.heap.size, 0, none⟩ = some (.int .i64 a) := cell_of cl rfl
      have hll := lt_of_block cl
      clear cl
      go_wp2_with fail
      refine (holder_any _ a h0 h1).mono ?_
      rintro e w4 ⟨g, rfl, hW4, hg5, hB5⟩
      have HB5 := hid hB5
      have HW4 := hid hW4
      obtain ⟨i39, hi, hz0, hz1, hz2⟩ := info39
      have hzz : (Value.pointer none).cells.size = 1 := rfl
      clear hW4 hB5 l0
      obtain ⟨sq, sc, rfl⟩ := HS.out.len
      go_wp2_with (at_builtin; (refine wpList_append_own_at _ rfl _ _ 30 rfl w0.heap.size 39 i39 (.pointer none) 1 8 Try.underlying30 hi hz0 hz1 hz2 hzz (by decide) _ k (ptrs k G) rfl ?o0 ⟨w4.heap.size, 0, none⟩ 1 _ [ptr g] rfl ?c0 ?c1 ?c2 ?c3 ?c4 ?c5 ?_))
      case o0 => exact (HS.out.below (zkeep HB5.out _)).own
      case c0 => rfl
      case c1 => exact one_cell w4 g
      case c2 => exact one_plain g
      case c3 => unfold maxLen; omega
      case c4 => omega
      case c5 => exact Nat.le_trans HS.out.bel.size (zkeep HB5.out _).size
      intro v' w6 hown hgrow hnil hat
      have H6 := hid (HS.out.push (zkeep HB5.out (.cells #[ptr g] 39)) hg5 (HW4.out.below (below_alloc _ _)) hown hgrow (hat.imp id (fun h => h.trans (by simp))))
      have hz := HBw.out.size
      have hz5 := HB5.out.size
      have HV6 : Hid (∀ q, v'.ownBlock = some q → w.heap.size ≤ q) := hid (fun q hq => by
        rcases hat with h | h
        · exact HV.out q (h ▸ hq)
        · rw [h] at hq
          have : w4.heap.size + 1 = q := by simpa using hq
          omega)
      have HB6 : Hid (Below w.heap.size w w6) := hid ((bel_trans HBw.out (zkeep HB5.out (.cells #[ptr g] 39))).grown hgrow (bel_trans HBw.out (zkeep HB5.out (.cells #[ptr g] 39))).size (fun j e => HV.out j e))
      have HF6 : Hid (∀ i, i < k + 1 → upd f k ⟨a, false, 0, 0⟩ i = ⟨a, false, 0, 0⟩) := hid (fun i hi => by
        by_cases e : i = k
        · subst e; rw [upd_at]
        · rw [upd_ne _ _ e]; exact HF.out i (by omega))
      have HG6 : Hid (∀ i, i < k + 1 → w.heap.size ≤ upd G k g i) := hid (fun i hi => by
        by_cases e : i = k
        · subst e; rw [upd_at]; omega
        · rw [upd_ne _ _ e]; exact HG.out i (by omega))
      clear hown hgrow hnil hat hi hz0 hz1 hz2 hzz HB5 HW4 HS HF HG HV HBw hg5 hz hz5
      go_wp2
      go_roundw
      case rel => exact ⟨k + 1, _, _, by omega, by go_num, H6.out, HF6.out, HG6.out, HV6.out, HB6.out⟩
      case measure => simp [intOf]; omega
    · have ek : k = n := by omega
      subst ek
      clear hk hlt
      go_wp2
      go_ret2
      exact ⟨_, G, f, rfl, HS.out.bare, HF.out, HG.out, HV.out, HBw.out⟩
end Go.Proofs.Ytidgajjahpbbdaa
