/- What Turn, Give and Ref return and leave, for every pool whose descriptors lie in memory and every number; of no pool: the error. Condition: the table of rules lies in its variable. -/
import Derived.Test.YtpfmmlbakbhklaaGreatDoorOS3
namespace Go.Proofs.YtpfmmlbakbhklaaGreatDoor.O
open Go.RowKit


set_option maxHeartbeats 1000000 in
theorem lay_none {w : World} {v : Value} (h : NoP w v) (f : Int) (c : Value) :
    Calls Tryz.prog 151 #[v, .int .i64 f, c] w fun x w' => x = .returned (.int .i64 10) ∧ w' = w := by
  have H2 := hid h
  clear h
  go_enter Tryz.func151, Tryz.ntmps151
  go_wp2_with fail
  refine (fault_none H2.out _).mono ?_
  rintro x w1 ⟨rfl, rfl⟩
  go_wp2
  go_ret
  exact ⟨rfl, rfl⟩

set_option maxRecDepth 100000 in
set_option maxHeartbeats 1000000 in
theorem turn_at {w : World} {p b : Nat} {L : List Ds} (h : PP w p b L) (f k o : Int) (hT : Tab w) :
    Calls Tryz.prog 112 #[.pointer (some ⟨p, 0, none⟩), .int .i64 f, .int .i64 k, .int .i64 o] w fun x w' => x = .returned (.int .i64 (tE L f k o)) ∧ PP w' p b (tL L f k o) ∧ Bt b w w' := by
  obtain ⟨u0, u1⟩ := two_new w (.cells #[.int .i64 k] 3) (.cells #[.int .i64 o] 3)
  have k0 := cell_of (i := 0) (v := .int .i64 k) u0 rfl
  have k1 := cell_of (i := 0) (v := .int .i64 o) u1 rfl
  have hB := btwo w (.cells #[.int .i64 k] 3) (.cells #[.int .i64 o] 3)
  have hP := (h.alloc (.cells #[.int .i64 k] 3)).alloc (.cells #[.int .i64 o] 3)
  have HX : Hid (∀ (R : Ending → World → Prop), (∀ x w', x = .returned (.int .i64 (tE L f k o)) → PP w' p b (tL L f k o) → Bt b ((w.alloc (.cells #[.int .i64 k] 3)).alloc (.cells #[.int .i64 o] 3)) w' → R x w') → Calls Tryz.prog 151 #[.pointer (some ⟨p, 0, none⟩), .int .i64 f, .func (.func 152) #[] #[.pointer (some ⟨w.heap.size, 0, none⟩), .pointer (some ⟨w.heap.size + 1, 0, none⟩)]] ((w.alloc (.cells #[.int .i64 k] 3)).alloc (.cells #[.int .i64 o] 3)) R) := by
    intro R hR
    have hT' : Tab ((w.alloc (.cells #[.int .i64 k] 3)).alloc (.cells #[.int .i64 o] 3)) := (hT.alloc _).alloc _
    by_cases hf : 0 ≤ f ∧ f < L.length
    · obtain ⟨i, rfl⟩ := Int.eq_ofNat_of_zero_le hf.1
      have hi : i < L.length := by omega
      have e1 : tE L (i : Int) k o = nxE (L.getD i zd) k o := if_pos hf
      by_cases hz : nxE (L.getD i zd) k o = 0
      · have e2 : tL L (i : Int) k o = L.set i (nxD (L.getD i zd) k o) := if_pos (e1.trans hz)
        rw [e1, e2, hz] at hR
        exact (turn_lay_ok hP k o _ _ hT' k0 k1 i hi _ hz rfl).mono fun x w' ⟨a, b, c⟩ => hR x w' a b c
      · have e2 : tL L (i : Int) k o = L := if_neg (by rw [e1]; exact hz)
        rw [e1, e2] at hR
        exact (turn_lay_no hP k o _ _ hT' k0 k1 i hi _ rfl (by simpa using hz)).mono fun x w' ⟨a, b⟩ => hR x w' a (hP.below b) (Bt.of_below b)
    · have e1 : tE L f k o = 2 := if_neg hf
      have e2 : tL L f k o = L := if_neg (by rw [e1]; decide)
      rw [e1, e2] at hR
      refine (turn_lay_out hP _ _ f hf).mono ?_
      rintro x w' ⟨a, rfl⟩
      exact hR x _ a hP (Bt.refl _ _)
  have HB := hid hB
  clear hB hP h hT u0 u1 k0 k1
  go_enter Tryz.func112, Tryz.ntmps112
  go_wp2_with fail
  refine HX.out _ ?_
  rintro x w' rfl hP' hB'
  go_wp2
  go_ret
  exact ⟨rfl, hP', (Bt.of_below HB.out).trans hB'⟩
set_option maxHeartbeats 1000000 in
theorem turn_none {w : World} {v : Value} (h : NoP w v) (f k o : Int) :
    Calls Tryz.prog 112 #[v, .int .i64 f, .int .i64 k, .int .i64 o] w fun x w' => x = .returned (.int .i64 10) ∧ Below w.heap.size w w' := by
  have hB := btwo w (.cells #[.int .i64 k] 3) (.cells #[.int .i64 o] 3)
  have HX := hid (lay_none (h.below hB) f (.func (.func 152) #[] #[.pointer (some ⟨w.heap.size, 0, none⟩), .pointer (some ⟨w.heap.size + 1, 0, none⟩)]))
  have HB := hid hB
  clear hB h
  go_enter Tryz.func112, Tryz.ntmps112
  go_wp2_with fail
  refine HX.out.mono ?_
  rintro x w' ⟨rfl, rfl⟩
  go_wp2
  go_ret
  exact ⟨rfl, HB.out⟩

end Go.Proofs.YtpfmmlbakbhklaaGreatDoor.O
