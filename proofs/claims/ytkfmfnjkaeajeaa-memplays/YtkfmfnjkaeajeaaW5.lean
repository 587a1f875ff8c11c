/- The fixed calls that every statement of this layer asks for come out as they must: known returns true; nothing that lay before is changed. No conditions. -/
import Derived.Test.YtkfmfnjkaeajeaaW4
namespace Go.Proofs.Ytkfmfnjkaeajeaa
open Go.RowKit

/-- Words that were made since w0. -/
structure Kn (w0 w : World) (p b : Nat) (s : St) : Prop where
  mem : Mem 53 w p b s
  cnt : ∃ k, k ≤ bnd ∧ Cnt s k
  bel : Below w0.heap.size w0 w
  hp : w0.heap.size ≤ p
  hb : w0.heap.size ≤ b
theorem Kn.turn {w0 w w' : World} {p b : Nat} {s s' : St} (h : Kn w0 w p b s) (t : Turns 53 p b w w' s') (c : ∃ k, k ≤ bnd ∧ Cnt s' k) : Kn w0 w' p b s' :=
  ⟨t.1, c, h.bel.trans (t.2.below h.bel.size h.hp h.hb), h.hp, h.hb⟩
theorem Kn.below {w0 w w' : World} {p b : Nat} {s : St} (h : Kn w0 w p b s) (t : Below w.heap.size w w') : Kn w0 w' p b s :=
  ⟨h.mem.below t, h.cnt, h.bel.trans (t.mono h.bel.size), h.hp, h.hb⟩
theorem Kn.store {w0 w : World} {p b : Nat} {s : St} (h : Kn w0 w p b s) (a v r : Int) (s' : St) (hr : errV s a = r) (hs : storeT s a v = s') (c : ∃ k, k ≤ bnd ∧ Cnt s' k) :
    Calls Try.prog 14 #[.pointer (some ⟨p, 0, none⟩), .int .i64 a, .int .u64 v] w fun e w' => e = .returned (.int .i64 r) ∧ Kn w0 w' p b s' := by
  subst hr hs
  obtain ⟨k, hk, hc⟩ := h.cnt
  exact (store_any h.mem hc hk a v).mono fun e w' ⟨he, hT⟩ => ⟨he, h.turn hT c⟩
theorem Kn.cas {w0 w : World} {p b : Nat} {s : St} (h : Kn w0 w p b s) (a o v r : Int) (y : Bool) (s' : St) (hr : errV s a = r) (hy : casV s a o = y) (hs : casT s a o v = s') (c : ∃ k, k ≤ bnd ∧ Cnt s' k) :
    Calls Try.prog 16 #[.pointer (some ⟨p, 0, none⟩), .int .i64 a, .int .u64 o, .int .u64 v] w fun e w' => e = .returned (.tuple #[.bool y, .int .i64 r]) ∧ Kn w0 w' p b s' := by
  subst hr hs hy
  obtain ⟨k, hk, hc⟩ := h.cnt
  exact (cas_any h.mem hc hk a o v).mono fun e w' ⟨he, hT⟩ => ⟨he, h.turn hT c⟩
theorem Kn.add {w0 w : World} {p b : Nat} {s : St} (h : Kn w0 w p b s) (a v x r : Int) (s' : St) (hr : errV s a = r) (hx : loadV s a = x) (hs : addT s a v = s') (c : ∃ k, k ≤ bnd ∧ Cnt s' k) :
    Calls Try.prog 18 #[.pointer (some ⟨p, 0, none⟩), .int .i64 a, .int .u64 v] w fun e w' => e = .returned (.tuple #[.int .u64 x, .int .i64 r]) ∧ Kn w0 w' p b s' := by
  subst hr hs hx
  obtain ⟨k, hk, hc⟩ := h.cnt
  exact (add_any h.mem hc hk a v).mono fun e w' ⟨he, hT⟩ => ⟨he, h.turn hT c⟩
theorem Kn.load {w0 w : World} {p b : Nat} {s : St} (h : Kn w0 w p b s) (a x r : Int) (s' : St) (hr : errV s a = r) (hx : loadV s a = x) (hs : loadT s a = s') (c : ∃ k, k ≤ bnd ∧ Cnt s' k) :
    Calls Try.prog 12 #[.pointer (some ⟨p, 0, none⟩), .int .i64 a] w fun e w' => e = .returned (.tuple #[.int .u64 x, .int .i64 r]) ∧ Kn w0 w' p b s' := by
  subst hr hs hx
  obtain ⟨k, hk, hc⟩ := h.cnt
  exact (load_any h.mem hc hk a).mono fun e w' ⟨he, hT⟩ => ⟨he, h.turn hT c⟩
theorem Kn.count {w0 w : World} {p b : Nat} {s : St} (h : Kn w0 w p b s) :
    Calls Try.prog 21 #[.pointer (some ⟨p, 0, none⟩)] w fun e w' => e = .returned (.tuple #[.int .i64 s.d, .int .i64 s.l]) ∧ Kn w0 w' p b s :=
  (count_any h.mem).mono fun _ _ ⟨he, hT⟩ => ⟨he, h.below hT⟩
theorem Kn.len {w0 w : World} {p b : Nat} {s : St} (h : Kn w0 w p b s) (n : Nat) (hn : s.xs.length = n) :
    Calls Try.prog 25 #[.pointer (some ⟨p, 0, none⟩)] w fun e w' => e = .returned (.int .i64 n) ∧ w' = w := by
  subst hn; exact len_at h.mem
theorem Kn.words {w0 w : World} {p b : Nat} {s : St} (h : Kn w0 w p b s) (a m : Int) (xs : List Int) (hm : m ≤ 9223372036854775807) (hx : wordsV s a m = xs) :
    Calls Try.prog 22 #[.pointer (some ⟨p, 0, none⟩), .int .i64 a, .int .i64 m] w fun e w' => ∃ q c, e = .returned (.slice q xs.length c) ∧ Lies w' (.slice q xs.length c) xs ∧ Below w.heap.size w w' ∧ Kn w0 w' p b s := by
  subst hx
  refine (words_any h.mem a m hm).mono ?_
  rintro e w' ⟨v, rfl, hL, hB⟩
  obtain ⟨_, q, c, rfl, _⟩ := id hL
  exact ⟨q, c, rfl, hL, hB, h.below hB⟩
theorem Kn.new (w0 w : World) (n : Nat) (h0 : Below w0.heap.size w0 w) (h1 : 1 ≤ n) (h2 : n ≤ 65536) :
    Calls Try.prog 10 #[.int .i64 n] w fun e w' => ∃ p b, e = .returned (.tuple #[.pointer (some ⟨p, 0, none⟩), .int .i64 0]) ∧ Kn w0 w' p b ⟨List.replicate n 0, 0, 0⟩ ∧ w.heap.size ≤ p ∧ w.heap.size ≤ b ∧ Below w.heap.size w w' := by
  refine (new_yes n w h1 h2).mono ?_
  rintro e w' ⟨rfl, hM, hB⟩
  have := h0.size
  exact ⟨_, _, rfl, ⟨hM, ⟨0, by decide, ⟨Int.le_refl 0, Int.le_refl 0, Int.le_refl 0, Int.le_refl 0⟩⟩, h0.trans (hB.mono h0.size), by omega, by omega⟩, by omega, by omega, hB⟩

theorem cnt_of (s : St) (k : Nat) (h : k ≤ bnd) (h1 : 0 ≤ s.d) (h2 : s.d ≤ k) (h3 : 0 ≤ s.l) (h4 : s.l ≤ k) : ∃ k, k ≤ bnd ∧ Cnt s k := ⟨k, h, h1, h2, h3, h4⟩

theorem cnt_mk (xs : List Int) (d l : Int) (k : Nat) (h : k ≤ bnd) (h1 : 0 ≤ d) (h2 : d ≤ k) (h3 : 0 ≤ l) (h4 : l ≤ k) : ∃ k, k ≤ bnd ∧ Cnt ⟨xs, d, l⟩ k := ⟨k, h, h1, h2, h3, h4⟩

set_option maxRecDepth 100000 in
set_option maxHeartbeats 1000000 in
theorem known_yes (w0 : World) : Calls Try.prog 9 #[] w0 fun e w' => e = .returned (.bool true) ∧ Below w0.heap.size w0 w' := by
  go_enter Try.func9, Try.ntmps9
  go_wp2_with fail
  refine (Kn.new w0 _ 2 (Below.refl _ _) (by decide) (by decide)).mono ?_
  rintro e w1 ⟨p, b, rfl, K, -, -, -⟩
  replace K : Kn w0 w1 p b ⟨[0, 0], 0, 0⟩ := K
  go_wp2_with fail
  refine (new_no _ _ (Or.inl (by decide))).mono ?_
  rintro e w' ⟨rfl, hw'⟩; rw [hw']; clear hw' w'
  go_wp2_with fail
  refine (K.store 1 5 0 ⟨[0, 5], 1, 1⟩ rfl rfl (cnt_of _ 9 (by decide) (by decide) (by decide) (by decide) (by decide))).mono ?_
  rintro e w2 ⟨rfl, K2⟩; clear K
  go_wp2_with fail
  refine (K2.cas 1 5 7 0 true ⟨[0, 7], 2, 2⟩ rfl rfl rfl (cnt_of _ 9 (by decide) (by decide) (by decide) (by decide) (by decide))).mono ?_
  rintro e w3 ⟨rfl, K3⟩; clear K2
  go_wp2_with fail
  refine (K3.cas 1 5 8 0 false ⟨[0, 7], 3, 2⟩ rfl rfl rfl (cnt_of _ 9 (by decide) (by decide) (by decide) (by decide) (by decide))).mono ?_
  rintro e w4 ⟨rfl, K4⟩; clear K3
  go_wp2_with fail
  refine (K4.add 1 2 7 0 ⟨[0, 9], 4, 3⟩ rfl rfl rfl (cnt_of _ 9 (by decide) (by decide) (by decide) (by decide) (by decide))).mono ?_
  rintro e w5 ⟨rfl, K5⟩; clear K4
  go_wp2_with fail
  refine (K5.load 1 9 0 ⟨[0, 9], 5, 3⟩ rfl rfl rfl (cnt_of _ 9 (by decide) (by decide) (by decide) (by decide) (by decide))).mono ?_
  rintro e w6 ⟨rfl, K6⟩; clear K5
  go_wp2_with fail
  refine (K6.load 2 0 2 ⟨[0, 9], 5, 3⟩ rfl rfl rfl (cnt_of _ 9 (by decide) (by decide) (by decide) (by decide) (by decide))).mono ?_
  rintro e w7 ⟨rfl, K7⟩; clear K6
  go_wp2_with fail
  refine K7.count.mono ?_
  rintro e w8 ⟨rfl, K8⟩; clear K7
  simp only []
  go_wp2_with fail
  refine (K8.len 2 rfl).mono ?_
  rintro e w' ⟨rfl, hw'⟩; rw [hw']; clear hw' w'
  go_wp2_with fail
  refine (K8.words 0 2 [0, 9] (by decide) rfl).mono ?_
  rintro e w9 ⟨q, c, rfl, L9, -, K9⟩; clear K8
  simp only [List.length_cons, List.length_nil] at L9 ⊢
  go_wp2_with fail
  have hal : Below w9.heap.size w9 (w9.alloc (.cells #[.int .u64 0, .int .u64 9] 31)) := (Below.refl _ _).alloc (Nat.le_refl _) _
  refine (same_any (xs := [0, 9]) (L9.below hal) (IsRow.lies (heap_alloc_new _ _) rfl (by decide))).mono ?_
  rintro e w10 ⟨rfl, hB10⟩
  have K10 := (K9.below hal).below hB10
  clear K9 L9 hal hB10
  go_wp2_with fail
  refine (K10.words 1 2 [] (by decide) rfl).mono ?_
  rintro e w11 ⟨q', c', rfl, -, -, K11⟩; clear K10
  go_wp2
  go_ret
  exact ⟨rfl, K11.bel⟩
end Go.Proofs.Ytkfmfnjkaeajeaa
