/- What Parse returns, the program's and the document's, for every word: the same descriptor and answer; the world's old blocks are as they were. Condition: the package's two tables lie in their variables (for the program's call). -/
import Derived.Test.YtacifhfkadnklaaDoorD9
import Derived.Test.YtacifhfkadnklaaDoorR1
namespace Go.Proofs.YtacifhfkadnklaaDoor
open Go.RowKit

/-- What stands in the fields of a word. -/
def rd (x : Nat) : Ds := ⟨(x % 16 : Nat), (x / 16 % 256 : Nat), (x / 4096 % 65536 : Nat), (x / 4294967296 % 4294967296 : Nat)⟩
theorem row_new5 (k : IntKind) (w : World) (t : TypeId) (a b c d e : Int) : Row k (w.alloc (.cells #[.int k a, .int k b, .int k c, .int k d, .int k e] t)) (.slice (some ⟨w.heap.size, 0, none⟩) 5 5) [a, b, c, d, e] := by
  refine ⟨by unfold maxLen; simp, _, _, rfl, fun _ => ⟨w.heap.size, 0, rfl, by simp, fun i hi => ?_⟩⟩
  rw [World.cell?_alloc_at _ _ _ _ rfl]
  match i, hi with
  | 0, _ => rfl
  | 1, _ => rfl
  | 2, _ => rfl
  | 3, _ => rfl
  | 4, _ => rfl
theorem fGet_yes (x : Nat) (l s : Int) (h : isF l s = true) : fGet x l s = M.gt x l.toNat s.toNat := by simp [fGet, h]
theorem split5 (x : Nat) : splitTo x 0 [4, 8, 16, 4, 32] = some [x % 16, x / 16 % 256, x / 4096 % 65536, x / 268435456 % 16, x / 4294967296 % 4294967296] := by
  rw [splitTo_yes _ _ _ _ (by show isF 0 4 = true; decide), splitTo_yes _ _ _ _ (by show isF 4 8 = true; decide), splitTo_yes _ _ _ _ (by show isF 12 16 = true; decide), splitTo_yes _ _ _ _ (by show isF 28 4 = true; decide), splitTo_yes _ _ _ _ (by show isF 32 32 = true; decide)]
  rw [fGet_yes _ _ _ (by show isF 0 4 = true; decide), fGet_yes _ _ _ (by show isF 4 8 = true; decide), fGet_yes _ _ _ (by show isF 12 16 = true; decide), fGet_yes _ _ _ (by show isF 28 4 = true; decide), fGet_yes _ _ _ (by show isF 32 32 = true; decide)]
  simp [splitTo, M.gt]

theorem split_row (x : Nat) (hx : x < 18446744073709551616) (v : Value) (w : World) (h : Row .i64 w v [4, 8, 16, 4, 32]) :
    Calls Tryd.prog 32 #[.int .u64 x, v] w fun e w' => ∃ b off cap, e = .returned (.slice (some ⟨b, off, none⟩) 5 cap) ∧
      (w'.cell? ⟨b, off, none⟩ = some (.int .u64 (x % 16 : Nat)) ∧ w'.cell? ⟨b, off + 1, none⟩ = some (.int .u64 (x / 16 % 256 : Nat)) ∧ w'.cell? ⟨b, off + 2, none⟩ = some (.int .u64 (x / 4096 % 65536 : Nat)) ∧ w'.cell? ⟨b, off + 4, none⟩ = some (.int .u64 (x / 4294967296 % 4294967296 : Nat))) ∧ Below w.heap.size w w' :=
  (split_any x (by omega) (by omega) v [4, 8, 16, 4, 32] w h).mono fun e w' ⟨u, he, hr, hb⟩ => by
    rw [Int.toNat_natCast, split5] at hr
    obtain ⟨b, off, cap, hv, _, hc⟩ := (Row.of_owns (k := .u64) (xs := [x % 16, x / 16 % 256, x / 4096 % 65536, x / 268435456 % 16, x / 4294967296 % 4294967296]) hr (by unfold maxLen; simp)).some' (by simp)
    exact ⟨b, off, cap, by rw [he, hv]; rfl, ⟨hc 0 (by simp), hc 1 (by simp), hc 2 (by simp), hc 4 (by simp)⟩, hb⟩

set_option maxRecDepth 100000 in
set_option maxHeartbeats 400000 in
theorem read_at (x : Nat) (hx : x < 18446744073709551616) (w : World) :
    Calls Tryd.prog 23 #[.int .u64 x] w fun e w' => e = .returned (dV (rd x)) ∧ Below w.heap.size w w' := by
  have HX := hid hx
  clear hx
  have hR : Row .i64 ((w.alloc (.cells #[.int .i64 0, .int .i64 0, .int .i64 0, .int .i64 0] 23)).alloc (.cells #[.int .i64 4, .int .i64 8, .int .i64 16, .int .i64 4, .int .i64 32] 3)) (.slice (some ⟨w.heap.size + 1, 0, none⟩) 5 5) [4, 8, 16, 4, 32] := by
    have := row_new5 .i64 (w.alloc (.cells #[.int .i64 0, .int .i64 0, .int .i64 0, .int .i64 0] 23)) 3 4 8 16 4 32
    rw [World.size_alloc] at this
    exact this
  go_enter Tryd.func23, Tryd.ntmps23
  go_wp2_with fail
  refine (split_row x HX.out _ _ hR).mono ?_
  rintro e w1 ⟨b, off, cap, rfl, ⟨c0, c1, c2, c4⟩, hB⟩
  have a0 := stay hB (two_new w _ _).1
  have HB := hid (bgo (btwo w _ _) hB)
  obtain ⟨p00, p01, p02, p03, q00, q01, q02, q03⟩ := four a0
  have A0 := hid a0
  clear hB a0
  have l0 : x % 16 < 16 := Nat.mod_lt _ (by decide)
  have l1 : x / 16 % 256 < 256 := Nat.mod_lt _ (by decide)
  have l2 : x / 4096 % 65536 < 65536 := Nat.mod_lt _ (by decide)
  have l3 : x / 4294967296 % 4294967296 < 4294967296 := Nat.mod_lt _ (by decide)
  obtain ⟨k, hk⟩ : ∃ k, x % 16 = k := ⟨_, rfl⟩
  obtain ⟨o, ho⟩ : ∃ k, x / 16 % 256 = k := ⟨_, rfl⟩
  obtain ⟨r, hr⟩ : ∃ k, x / 4096 % 65536 = k := ⟨_, rfl⟩
  obtain ⟨e, he⟩ : ∃ k, x / 4294967296 % 4294967296 = k := ⟨_, rfl⟩
  have HD := hid (show rd x = ⟨k, o, r, e⟩ by unfold rd; rw [hk, ho, hr, he])
  rw [hk] at c0 l0
  rw [ho] at c1 l1
  rw [hr] at c2 l2
  rw [he] at c4 l3
  clear hk ho hr he HX hR
  (try simp only [])
  go_wp2_with fail
  go_region
  go_wp2
  (try simp only [Exit.inBlock, Exit.then])
  refine bodyPost_ret (results_cell_row rfl _ _ w.heap.size 23 _ (0, 0) _ rfl (show _ from put4 A0.out _ _ _ _) Tryd.underlying23 rfl size23) rfl ?_
  refine ⟨?_, (bput HB.out (Nat.le_refl _) _ _ _ _).drew⟩
  rw [HD.out]
  rfl
end Go.Proofs.YtacifhfkadnklaaDoor
