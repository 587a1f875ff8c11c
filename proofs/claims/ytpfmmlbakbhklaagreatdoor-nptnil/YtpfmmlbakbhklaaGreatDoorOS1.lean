/- What the pool's small calls (isNone, fault, Len, Of) return, for every pool and every number: the world's old blocks are as they were. -/
import Derived.Test.YtpfmmlbakbhklaaGreatDoorOH
namespace Go.Proofs.YtpfmmlbakbhklaaGreatDoor.O
open Go.RowKit

/-- No pool: nil, or one that New did not give. -/
def NoP (w : World) (v : Value) : Prop := v = .pointer none ∨ ∃ g, v = .pointer (some ⟨g, 0, none⟩) ∧ w.cell? ⟨g, 0, none⟩ = some (.slice none 0 0)
theorem NoP.below {w w' : World} {v : Value} (h : NoP w v) (k : Below w.heap.size w w') : NoP w' v := by
  rcases h with h | ⟨g, h, e⟩
  · exact .inl h
  · exact .inr ⟨g, h, (k.cell (p := ⟨g, 0, none⟩) (World.block_lt_of_cell? w ⟨g, 0, none⟩ e)).trans e⟩

set_option maxHeartbeats 400000 in
theorem isNone_no {w : World} {p b : Nat} {L : List Ds} (h : PP w p b L) :
    Calls Tryz.prog 66 #[.pointer (some ⟨p, 0, none⟩)] w fun e w' => e = .returned (.bool false) ∧ w' = w := by
  obtain ⟨c, hc⟩ := h.slice
  have hp := h.pos
  generalize L.length = n at hc hp
  have hn : ((n : Int) == 0) = false := by simpa using (by omega : ¬ n = 0)
  clear hp h
  go_enter Tryz.func66, Tryz.ntmps66
  go_wp2
  go_ret
  exact ⟨rfl, rfl⟩
set_option maxHeartbeats 400000 in
theorem isNone_yes {w : World} {v : Value} (h : NoP w v) :
    Calls Tryz.prog 66 #[v] w fun e w' => e = .returned (.bool true) ∧ w' = w := by
  rcases h with rfl | ⟨g, rfl, hc⟩
  · go_enter Tryz.func66, Tryz.ntmps66
    go_wp2
    go_ret
    exact ⟨rfl, rfl⟩
  · go_enter Tryz.func66, Tryz.ntmps66
    go_wp2
    go_ret
    exact ⟨rfl, rfl⟩

set_option maxHeartbeats 400000 in
theorem fault_none {w : World} {v : Value} (h : NoP w v) (f : Int) :
    Calls Tryz.prog 70 #[v, .int .i64 f] w fun e w' => e = .returned (.int .i64 10) ∧ w' = w := by
  have HH := hid h
  clear h
  go_enter Tryz.func70, Tryz.ntmps70
  go_wp2_with fail
  refine (isNone_yes HH.out).mono ?_
  rintro e w1 ⟨rfl, rfl⟩
  go_wp2
  go_ret
  exact ⟨rfl, rfl⟩
set_option maxHeartbeats 400000 in
theorem fault_out {w : World} {p b : Nat} {L : List Ds} (h : PP w p b L) (f : Int) (hf : ¬ (0 ≤ f ∧ f < L.length)) :
    Calls Tryz.prog 70 #[.pointer (some ⟨p, 0, none⟩), .int .i64 f] w fun e w' => e = .returned (.int .i64 2) ∧ w' = w := by
  have HH := hid h
  obtain ⟨c, hc⟩ := h.slice
  clear h
  generalize L.length = n at hc hf
  by_cases h0 : f < 0
  · go_enter Tryz.func70, Tryz.ntmps70
    go_wp2_with fail
    refine (isNone_no HH.out).mono ?_
    rintro e w1 ⟨rfl, rfl⟩
    go_wp2
    go_ret
    exact ⟨rfl, rfl⟩
  · have h1 : (n : Int) ≤ f := by omega
    clear hf
    go_enter Tryz.func70, Tryz.ntmps70
    go_wp2_with fail
    refine (isNone_no HH.out).mono ?_
    rintro e w1 ⟨rfl, rfl⟩
    go_wp2
    go_ret
    exact ⟨rfl, rfl⟩
set_option maxHeartbeats 400000 in
theorem fault_in {w : World} {p b : Nat} {L : List Ds} (h : PP w p b L) (i : Nat) (hi : i < L.length) :
    Calls Tryz.prog 70 #[.pointer (some ⟨p, 0, none⟩), .int .i64 i] w fun e w' => e = .returned (.int .i64 0) ∧ w' = w := by
  have HH := hid h
  obtain ⟨c, hc⟩ := h.slice
  clear h
  generalize L.length = n at hc hi
  have h0 : ¬ (i : Int) < 0 := by omega
  have h1 : ¬ (n : Int) ≤ i := by omega
  clear hi
  go_enter Tryz.func70, Tryz.ntmps70
  go_wp2_with fail
  refine (isNone_no HH.out).mono ?_
  rintro e w1 ⟨rfl, rfl⟩
  go_wp2
  go_ret
  exact ⟨rfl, rfl⟩

set_option maxHeartbeats 400000 in
theorem len_at {w : World} {p b : Nat} {L : List Ds} (h : PP w p b L) :
    Calls Tryz.prog 32 #[.pointer (some ⟨p, 0, none⟩)] w fun e w' => e = .returned (.int .i64 L.length) ∧ w' = w := by
  have HH := hid h
  obtain ⟨c, hc⟩ := h.slice
  clear h
  generalize L.length = n at hc ⊢
  go_enter Tryz.func32, Tryz.ntmps32
  go_wp2_with fail
  refine (isNone_no HH.out).mono ?_
  rintro e w1 ⟨rfl, rfl⟩
  go_wp2
  go_ret
  exact ⟨rfl, rfl⟩
set_option maxHeartbeats 400000 in
theorem len_none {w : World} {v : Value} (h : NoP w v) :
    Calls Tryz.prog 32 #[v] w fun e w' => e = .returned (.int .i64 0) ∧ w' = w := by
  have HH := hid h
  clear h
  go_enter Tryz.func32, Tryz.ntmps32
  go_wp2_with fail
  refine (isNone_yes HH.out).mono ?_
  rintro e w1 ⟨rfl, rfl⟩
  go_wp2
  go_ret
  exact ⟨rfl, rfl⟩
end Go.Proofs.YtpfmmlbakbhklaaGreatDoor.O
