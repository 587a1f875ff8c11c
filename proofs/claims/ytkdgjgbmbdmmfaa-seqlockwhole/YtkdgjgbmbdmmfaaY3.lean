/- What light returns: whether a case asks little. Condition: the lists of a case read as such. -/
import Derived.Test.YtkdgjgbmbdmmfaaK
namespace Go.Proofs.Ytkdgjgbmbdmmfaa
open Go.RowKit

/-- A case: four small numbers, a list of lists, a list of small numbers. -/
structure Cs where
  a : Int
  z : Int
  vq : Option Addr
  vn : Nat
  vc : Nat
  r : Int
  pq : Option Addr
  pn : Nat
  pc : Nat
  o : Int
abbrev csC (c : Cs) : Array Value := #[.int .u8 c.a, .int .u8 c.z, .slice c.vq c.vn c.vc, .int .u8 c.r, .slice c.pq c.pn c.pc, .int .u8 c.o]
abbrev csO (c : Cs) : Obj := .cells (csC c) 25 (0, 0)
/-- A list of lists reads as such. -/
def VL (w : World) (q : Option Addr) (n : Nat) : Prop :=
  n ≤ maxLen ∧ (n ≠ 0 → ∃ b off, q = some ⟨b, off, none⟩ ∧ b < w.heap.size ∧ ∀ i, i < n → ∃ q' n' c', w.cell? ⟨b, off + i, none⟩ = some (.slice q' n' c') ∧ n' ≤ maxLen)
/-- A list of small numbers reads as z. -/
def PL (w : World) (q : Option Addr) (n : Nat) (z : Nat → Nat) : Prop :=
  n ≤ maxLen ∧ (∀ i, z i < 256) ∧ (n ≠ 0 → ∃ b off, q = some ⟨b, off, none⟩ ∧ b < w.heap.size ∧ ∀ i, i < n → w.cell? ⟨b, off + i, none⟩ = some (.int .u8 (z i : Int)))

set_option maxRecDepth 100000 in
set_option maxHeartbeats 1000000 in
theorem light_at (c : Cs) (w : World) (hV : VL w c.vq c.vn) (hP : c.pn ≤ maxLen) :
    Calls Try.prog 7 #[.agg (csC c)] w fun e w' => ∃ b : Bool, e = .returned (.bool b) ∧ (b = true → c.vn ≤ 6 ∧ c.pn ≤ 300) ∧ Below w.heap.size w w' := by
  obtain ⟨a, z, vq, vn, vc, r, pq, pn, pc, o⟩ := c
  obtain ⟨hvm, hv⟩ := hV
  simp only [] at hvm hv hP ⊢
  unfold maxLen at hvm hP
  have HV := hid hv
  clear hv
  by_cases h6 : 6 < vn
  · have hd : decide ((6 : Int) < (vn : Int)) = true := by simp; omega
    go_enter Try.func7, Try.ntmps7
    go_wp2
    go_ret
    exact ⟨false, rfl, fun h => (by cases h), below_alloc _ _⟩
  · have hd : decide ((6 : Int) < (vn : Int)) = false := by simp; omega
    by_cases h300 : 300 < pn
    · have hd2 : decide ((300 : Int) < (pn : Int)) = true := by simp; omega
      go_enter Try.func7, Try.ntmps7
      go_wp2
      go_ret
      exact ⟨false, rfl, fun h => (by cases h), below_alloc _ _⟩
    · have hd2 : decide ((300 : Int) < (pn : Int)) = false := by simp; omega
      go_enter Try.func7, Try.ntmps7
      go_wp2
      go_loopw [3] (fun i wr => ∃ k : Nat, k ≤ vn ∧ i = .int .i64 k ∧ wr = w.alloc (.cells #[.int .u8 a, .int .u8 z, .slice vq vn vc, .int .u8 r, .slice pq pn pc, .int .u8 o] 25)) (fun i _ => vn - (intOf i).toNat)
      case atStart => exact ⟨0, Nat.zero_le _, rfl, rfl⟩
      case round =>
        obtain ⟨k, hk, rfl, rfl⟩ := hrel
        by_cases hlt : k < vn
        · obtain ⟨b, off, rfl, hb, hc⟩ := HV.out (by omega)
          obtain ⟨q', n', c', hcell, hn'⟩ := hc k hlt
          clear hc
          unfold maxLen at hn'
          by_cases h100 : 100 < n'
          · have hd3 : decide ((100 : Int) < (n' : Int)) = true := by simp; omega
            go_wp2
            go_ret
            exact ⟨false, rfl, fun h => (by cases h), below_alloc _ _⟩
          · have hd3 : decide ((100 : Int) < (n' : Int)) = false := by simp; omega
            go_wp2
            go_roundw
            case rel => exact ⟨k + 1, by omega, by go_num, trivial⟩
            case measure => simp [intOf]; omega
        · go_wp2
          go_ret
          exact ⟨true, rfl, fun _ => ⟨by omega, by omega⟩, below_alloc _ _⟩
end Go.Proofs.Ytkdgjgbmbdmmfaa
