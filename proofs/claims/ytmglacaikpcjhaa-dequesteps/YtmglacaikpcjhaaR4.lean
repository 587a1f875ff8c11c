/- What the document's answer for layer 7 leaves of a task behind its end. No conditions. -/
import Derived.Test.YtmglacaikpcjhaaR3
namespace Go.Proofs.Ytmglacaikpcjhaa
open Go.RowKit

theorem wrap64_i (x : Int) : wrap64 x = IntKind.i64.wrap x := by
  unfold wrap64
  simp [IntKind.wrap, IntKind.signed, IntKind.bits]
  omega
theorem dif_w (r o : Int) : wrap64 (IntKind.u64.wrap (r - o)) = difA r o := wrap64_i _
set_option maxHeartbeats 400000 in
theorem uend_at {w : World} {g : Nat} {u : Us} (h : IsUs w g u) (b : Bool) :
    Calls Try.prog 40 #[.pointer (some ⟨g, 0, none⟩), .bool b] w fun e w' => e = .returned (.tuple #[]) ∧ IsUs w' g { u with dn := true, hs := b } ∧ But g g w w' := by
  obtain ⟨c0, c1, c2, c3, c4, c5, c6, c7, c8, c9⟩ := h.uc
  have f8 := h.free 8
  have f9 := h.free 9
  have HH := hid h
  clear h c0 c1 c2 c3 c4 c5 c6 c7
  go_enter Try.func40, Try.ntmps40
  go_wp2
  first | go_end0 | (refine bodyPost_ret (results_none rfl _ _ _) rfl ?_)
  exact ⟨rfl, (HH.out.setD true).setH b, ((But.refl _ _ _).trans (but_set g 8 _ _)).trans (but_set g 9 _ _)⟩
theorem but_drewN (g : Nat) (w : World) (m : Nat) : But g g w (w.drewN m) := But.of_below (below_drewN (Below.refl _ _) m)
end Go.Proofs.Ytmglacaikpcjhaa
