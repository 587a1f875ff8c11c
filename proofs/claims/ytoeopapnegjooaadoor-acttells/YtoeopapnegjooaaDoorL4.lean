/- The walk of ActTells: for any two acts and any text it returns true; nothing that lay before is changed. Condition: the tables stand in their variables. -/
import Derived.Test.YtoeopapnegjooaaDoorR6
import Derived.Test.YtoeopapnegjooaaDoorO
import Derived.Test.YtoeopapnegjooaaDoorKit
import Derived.Deep.RegionHeld3
namespace Go.Proofs.YtoeopapnegjooaaDoor
open Go.RowKit

/-- What stands when all is compared: the two acts, and what both have read. -/
structure Tl (w0 w : World) (ga gb gx gy : Nat) (a b y : Ac) : Prop where
  ia : IsAc w ga a
  ib : IsAc w gb b
  ix : IsAc w gx y
  iy : IsAc w gy y
  bel : Below w0.heap.size w0 w
theorem Tl.below {w0 w w' : World} {ga gb gx gy : Nat} {a b y : Ac} (h : Tl w0 w ga gb gx gy a b y) (k : Below w.heap.size w w') : Tl w0 w' ga gb gx gy a b y :=
  ⟨h.ia.below k, h.ib.below k, h.ix.below k, h.iy.below k, bel_trans h.bel k⟩
/-- The cells that are loaded then. -/
abbrev So (w : World) (ga gb gx gy : Nat) (ak ad aa ab bk bd ba bb yk yd ya yb : Int) : Prop :=
  (w.cell? ⟨ga, 0, none⟩ = some (.int .i64 ak) ∧ w.cell? ⟨ga, 1, none⟩ = some (.int .i64 ad) ∧ w.cell? ⟨ga, 2, none⟩ = some (.int .u64 aa) ∧ w.cell? ⟨ga, 3, none⟩ = some (.int .u64 ab)) ∧ (w.cell? ⟨gb, 0, none⟩ = some (.int .i64 bk) ∧ w.cell? ⟨gb, 1, none⟩ = some (.int .i64 bd) ∧ w.cell? ⟨gb, 2, none⟩ = some (.int .u64 ba) ∧ w.cell? ⟨gb, 3, none⟩ = some (.int .u64 bb)) ∧ (w.cell? ⟨gx, 0, none⟩ = some (.int .i64 yk) ∧ w.cell? ⟨gx, 1, none⟩ = some (.int .i64 yd) ∧ w.cell? ⟨gx, 2, none⟩ = some (.int .u64 ya) ∧ w.cell? ⟨gx, 3, none⟩ = some (.int .u64 yb)) ∧ (w.cell? ⟨gy, 0, none⟩ = some (.int .i64 yk) ∧ w.cell? ⟨gy, 1, none⟩ = some (.int .i64 yd) ∧ w.cell? ⟨gy, 2, none⟩ = some (.int .u64 ya) ∧ w.cell? ⟨gy, 3, none⟩ = some (.int .u64 yb))
theorem Tl.so {w0 w : World} {ga gb gx gy : Nat} {ak ad aa ab bk bd ba bb yk yd ya yb : Int} (h : Tl w0 w ga gb gx gy ⟨ak, ad, aa, ab⟩ ⟨bk, bd, ba, bb⟩ ⟨yk, yd, ya, yb⟩) : So w ga gb gx gy ak ad aa ab bk bd ba bb yk yd ya yb :=
  ⟨⟨h.ia.c0, h.ia.c1, h.ia.c2, h.ia.c3⟩, ⟨h.ib.c0, h.ib.c1, h.ib.c2, h.ib.c3⟩, ⟨h.ix.c0, h.ix.c1, h.ix.c2, h.ix.c3⟩, ⟨h.iy.c0, h.iy.c1, h.iy.c2, h.iy.c3⟩⟩
def mB (k d a b k' d' a' b' : Int) : Bool := meetsB ⟨k, d, a, b⟩ ⟨k', d', a', b'⟩
theorem res_form (o : Option Ac) : ∃ (y : Ac) (z : Bool), resV o = .tuple #[acV y, .bool z] := by
  cases o with
  | none => exact ⟨noAc, false, rfl⟩
  | some x => exact ⟨x, true, rfl⟩

set_option maxHeartbeats 400000 in
theorem tells_long (a b : Ac) (s : ByteArray) (hs : 200 < s.size) (w : World) (h : Std w) :
    Calls Tryd.prog 4 #[acV a, acV b, .string s] w fun e w' => e = .returned (.bool true) ∧ Below w.heap.size w w' := by
  have HS := Lib.hid h
  have hd : decide ((200 : Int) < s.size) = true := by simp; omega
  clear h hs
  go_enter Tryd.func4, Tryd.ntmps4
  go_wp2_with fail
  refine (known_yes _ ((HS.out.below (below_alloc _ _)).below (below_alloc _ _))).mono ?_
  rintro e w2 ⟨rfl, K⟩
  go_wp2
  go_ret
  exact ⟨rfl, bel_trans (bel_trans (below_alloc _ _) (below_alloc _ _)) K⟩

set_option maxRecDepth 100000 in
set_option maxHeartbeats 2000000 in
theorem tells_short (a b : Ac) (ho : a.Ok) (s : ByteArray) (hs : s.size ≤ 200) (w : World) (h : Std w) :
    Calls Tryd.prog 4 #[acV a, acV b, .string s] w fun e w' => e = .returned (.bool true) ∧ Below w.heap.size w w' := by
  have HS := Lib.hid h
  have hd : decide ((200 : Int) < s.size) = false := by simp; omega
  have HP := Lib.hid (fun w h => parse_at s (by omega) w h)
  have HQ := Lib.hid (fun w => rparse_at s hs w)
  have HSa := Lib.hid (fun w h => show_at a ho w h)
  have HRa := Lib.hid (fun w => rshow_at a ho w)
  have HLa := Lib.hid (fun w => lays_at a w)
  have HMa := Lib.hid (fun w => rlays_at a w)
  obtain ⟨y, z, hyz⟩ := res_form (parseO s)
  rw [hyz] at HP HQ
  generalize showB a = t at HSa HRa
  generalize laysB a = l at HLa HMa
  clear h hs ho hyz
  obtain ⟨ak, ad, aa, ab⟩ := a
  obtain ⟨bk, bd, ba, bb⟩ := b
  obtain ⟨yk, yd, ya, yb⟩ := y
  go_enter Tryd.func4, Tryd.ntmps4
  go_wp2_with fail
  have A1 : IsAc ((w.alloc (.cells (acC ⟨ak, ad, aa, ab⟩) 40)).alloc (.cells (acC ⟨bk, bd, ba, bb⟩) 40)) w.heap.size ⟨ak, ad, aa, ab⟩ := (IsAc.new w _).below (below_alloc _ _)
  have B1 : IsAc ((w.alloc (.cells (acC ⟨ak, ad, aa, ab⟩) 40)).alloc (.cells (acC ⟨bk, bd, ba, bb⟩) 40)) (w.heap.size + 1) ⟨bk, bd, ba, bb⟩ := by
    have := IsAc.new (w.alloc (.cells (acC ⟨ak, ad, aa, ab⟩) 40)) ⟨bk, bd, ba, bb⟩
    simpa using this
  have HA1 := Lib.hid A1
  have HB1 := Lib.hid B1
  clear A1 B1
  refine (HP.out _ ((HS.out.below (below_alloc _ _)).below (below_alloc _ _))).mono ?_
  rintro e w2 ⟨rfl, K2⟩
  have HK2 := Lib.hid K2
  clear K2
  go_wp2_with fail
  have HY2 := Lib.hid (IsAc.new w2 ⟨yk, yd, ya, yb⟩)
  refine (HQ.out _).mono ?_
  rintro e w3 ⟨rfl, K3⟩
  have HK3 := Lib.hid K3
  clear K3
  go_wp2_with fail
  have HT : Hid (Tl w (w3.alloc (.cells #[.int .i64 yk, .int .i64 yd, .int .u64 ya, .int .u64 yb] 40)) w.heap.size (w.heap.size + 1) w2.heap.size w3.heap.size ⟨ak, ad, aa, ab⟩ ⟨bk, bd, ba, bb⟩ ⟨yk, yd, ya, yb⟩) :=
    Lib.hid ⟨(((HA1.out.below HK2.out).below (below_alloc _ _)).below HK3.out).below (below_alloc _ _), (((HB1.out.below HK2.out).below (below_alloc _ _)).below HK3.out).below (below_alloc _ _), (HY2.out.below HK3.out).below (below_alloc _ _), IsAc.new w3 ⟨yk, yd, ya, yb⟩, bel_trans (bel_trans (bel_trans (bel_trans (bel_trans (below_alloc _ _) (below_alloc _ _)) HK2.out) (below_alloc _ _)) HK3.out) (below_alloc _ _)⟩
  clear HA1 HB1 HK2 HK3 HY2
  generalize w3.alloc (.cells #[.int .i64 yk, .int .i64 yd, .int .u64 ya, .int .u64 yb] 40) = W at HT ⊢
  have HD0 := Lib.hid (HT.out.below (Below.refl _ _).drew)
  have hS0 := HD0.out.so
  have s0 := HT.out.so
  have tz : (z == z) = true := by simp
  have tl : (l == l) = true := by simp
  have tt := eq_bytes t
  have tm1 : (mB ak ad aa ab bk bd ba bb == mB ak ad aa ab bk bd ba bb) = true := by simp
  have tm2 : (mB bk bd ba bb ak ad aa ab == mB bk bd ba bb ak ad aa ab) = true := by simp
  have H19 := Lib.hid (fun (w' : World) (_ : So w' w.heap.size (w.heap.size + 1) w2.heap.size w3.heap.size ak ad aa ab bk bd ba bb yk yd ya yb) (hm : Hid (Tl w w' w.heap.size (w.heap.size + 1) w2.heap.size w3.heap.size ⟨ak, ad, aa, ab⟩ ⟨bk, bd, ba, bb⟩ ⟨yk, yd, ya, yb⟩)) =>
    (HLa.out w').mono (R' := fun e w'' => e = .returned (.bool l) ∧ Hid (Tl w w'' w.heap.size (w.heap.size + 1) w2.heap.size w3.heap.size ⟨ak, ad, aa, ab⟩ ⟨bk, bd, ba, bb⟩ ⟨yk, yd, ya, yb⟩) ∧ So w'' w.heap.size (w.heap.size + 1) w2.heap.size w3.heap.size ak ad aa ab bk bd ba bb yk yd ya yb) (fun _ _ ⟨he, K⟩ => ⟨he, Lib.hid (hm.out.below K), (hm.out.below K).so⟩))
  have H20 := Lib.hid (fun (w' : World) (_ : So w' w.heap.size (w.heap.size + 1) w2.heap.size w3.heap.size ak ad aa ab bk bd ba bb yk yd ya yb) (hm : Hid (Tl w w' w.heap.size (w.heap.size + 1) w2.heap.size w3.heap.size ⟨ak, ad, aa, ab⟩ ⟨bk, bd, ba, bb⟩ ⟨yk, yd, ya, yb⟩)) =>
    (HMa.out w').mono (R' := fun e w'' => e = .returned (.bool l) ∧ Hid (Tl w w'' w.heap.size (w.heap.size + 1) w2.heap.size w3.heap.size ⟨ak, ad, aa, ab⟩ ⟨bk, bd, ba, bb⟩ ⟨yk, yd, ya, yb⟩) ∧ So w'' w.heap.size (w.heap.size + 1) w2.heap.size w3.heap.size ak ad aa ab bk bd ba bb yk yd ya yb) (fun _ _ ⟨he, K⟩ => ⟨he, Lib.hid (hm.out.below K), (hm.out.below K).so⟩))
  have H21 := Lib.hid (fun (k d a b k' d' a' b' : Int) (w' : World) (_ : So w' w.heap.size (w.heap.size + 1) w2.heap.size w3.heap.size ak ad aa ab bk bd ba bb yk yd ya yb) (hm : Hid (Tl w w' w.heap.size (w.heap.size + 1) w2.heap.size w3.heap.size ⟨ak, ad, aa, ab⟩ ⟨bk, bd, ba, bb⟩ ⟨yk, yd, ya, yb⟩)) =>
    (meets_at ⟨k, d, a, b⟩ ⟨k', d', a', b'⟩ w').mono (R' := fun e w'' => e = .returned (.bool (mB k d a b k' d' a' b')) ∧ Hid (Tl w w'' w.heap.size (w.heap.size + 1) w2.heap.size w3.heap.size ⟨ak, ad, aa, ab⟩ ⟨bk, bd, ba, bb⟩ ⟨yk, yd, ya, yb⟩) ∧ So w'' w.heap.size (w.heap.size + 1) w2.heap.size w3.heap.size ak ad aa ab bk bd ba bb yk yd ya yb) (fun _ _ ⟨he, K⟩ => ⟨he, Lib.hid (hm.out.below K), (hm.out.below K).so⟩))
  have H22 := Lib.hid (fun (k d a b k' d' a' b' : Int) (w' : World) (_ : So w' w.heap.size (w.heap.size + 1) w2.heap.size w3.heap.size ak ad aa ab bk bd ba bb yk yd ya yb) (hm : Hid (Tl w w' w.heap.size (w.heap.size + 1) w2.heap.size w3.heap.size ⟨ak, ad, aa, ab⟩ ⟨bk, bd, ba, bb⟩ ⟨yk, yd, ya, yb⟩)) =>
    (rmeets_at ⟨k, d, a, b⟩ ⟨k', d', a', b'⟩ w').mono (R' := fun e w'' => e = .returned (.bool (mB k d a b k' d' a' b')) ∧ Hid (Tl w w'' w.heap.size (w.heap.size + 1) w2.heap.size w3.heap.size ⟨ak, ad, aa, ab⟩ ⟨bk, bd, ba, bb⟩ ⟨yk, yd, ya, yb⟩) ∧ So w'' w.heap.size (w.heap.size + 1) w2.heap.size w3.heap.size ak ad aa ab bk bd ba bb yk yd ya yb) (fun _ _ ⟨he, K⟩ => ⟨he, Lib.hid (hm.out.below K), (hm.out.below K).so⟩))
  have H23 := Lib.hid (fun (w' : World) (_ : So w' w.heap.size (w.heap.size + 1) w2.heap.size w3.heap.size ak ad aa ab bk bd ba bb yk yd ya yb) (hm : Hid (Tl w w' w.heap.size (w.heap.size + 1) w2.heap.size w3.heap.size ⟨ak, ad, aa, ab⟩ ⟨bk, bd, ba, bb⟩ ⟨yk, yd, ya, yb⟩)) =>
    (HSa.out w' (HS.out.below hm.out.bel)).mono (R' := fun e w'' => e = .returned (.string t) ∧ Hid (Tl w w'' w.heap.size (w.heap.size + 1) w2.heap.size w3.heap.size ⟨ak, ad, aa, ab⟩ ⟨bk, bd, ba, bb⟩ ⟨yk, yd, ya, yb⟩) ∧ So w'' w.heap.size (w.heap.size + 1) w2.heap.size w3.heap.size ak ad aa ab bk bd ba bb yk yd ya yb) (fun _ _ ⟨he, K⟩ => ⟨he, Lib.hid (hm.out.below K), (hm.out.below K).so⟩))
  have H24 := Lib.hid (fun (w' : World) (_ : So w' w.heap.size (w.heap.size + 1) w2.heap.size w3.heap.size ak ad aa ab bk bd ba bb yk yd ya yb) (hm : Hid (Tl w w' w.heap.size (w.heap.size + 1) w2.heap.size w3.heap.size ⟨ak, ad, aa, ab⟩ ⟨bk, bd, ba, bb⟩ ⟨yk, yd, ya, yb⟩)) =>
    (HRa.out w').mono (R' := fun e w'' => e = .returned (.string t) ∧ Hid (Tl w w'' w.heap.size (w.heap.size + 1) w2.heap.size w3.heap.size ⟨ak, ad, aa, ab⟩ ⟨bk, bd, ba, bb⟩ ⟨yk, yd, ya, yb⟩) ∧ So w'' w.heap.size (w.heap.size + 1) w2.heap.size w3.heap.size ak ad aa ab bk bd ba bb yk yd ya yb) (fun _ _ ⟨he, K⟩ => ⟨he, Lib.hid (hm.out.below K), (hm.out.below K).so⟩))
  have H9 := Lib.hid (fun (w' : World) (_ : So w' w.heap.size (w.heap.size + 1) w2.heap.size w3.heap.size ak ad aa ab bk bd ba bb yk yd ya yb) (hm : Hid (Tl w w' w.heap.size (w.heap.size + 1) w2.heap.size w3.heap.size ⟨ak, ad, aa, ab⟩ ⟨bk, bd, ba, bb⟩ ⟨yk, yd, ya, yb⟩)) =>
    (known_yes w' (HS.out.below hm.out.bel)).mono (R' := fun e w'' => e = .returned (.bool true) ∧ Hid (Tl w w'' w.heap.size (w.heap.size + 1) w2.heap.size w3.heap.size ⟨ak, ad, aa, ab⟩ ⟨bk, bd, ba, bb⟩ ⟨yk, yd, ya, yb⟩) ∧ So w'' w.heap.size (w.heap.size + 1) w2.heap.size w3.heap.size ak ad aa ab bk bd ba bb yk yd ya yb) (fun _ _ ⟨he, K⟩ => ⟨he, Lib.hid (hm.out.below K), (hm.out.below K).so⟩))
  simp only [So] at hS0 s0 H19 H20 H21 H22 H23 H24 H9
  obtain ⟨⟨a0, a1, a2, a3⟩, ⟨b0, b1, b2, b3⟩, ⟨x0, x1, x2, x3⟩, y0, y1, y2, y3⟩ := s0
  go_region_held3 (fun w' => (w'.cell? ⟨w.heap.size, 0, none⟩ = some (.int .i64 ak) ∧ w'.cell? ⟨w.heap.size, 1, none⟩ = some (.int .i64 ad) ∧ w'.cell? ⟨w.heap.size, 2, none⟩ = some (.int .u64 aa) ∧ w'.cell? ⟨w.heap.size, 3, none⟩ = some (.int .u64 ab)) ∧ (w'.cell? ⟨(w.heap.size + 1), 0, none⟩ = some (.int .i64 bk) ∧ w'.cell? ⟨(w.heap.size + 1), 1, none⟩ = some (.int .i64 bd) ∧ w'.cell? ⟨(w.heap.size + 1), 2, none⟩ = some (.int .u64 ba) ∧ w'.cell? ⟨(w.heap.size + 1), 3, none⟩ = some (.int .u64 bb)) ∧ (w'.cell? ⟨w2.heap.size, 0, none⟩ = some (.int .i64 yk) ∧ w'.cell? ⟨w2.heap.size, 1, none⟩ = some (.int .i64 yd) ∧ w'.cell? ⟨w2.heap.size, 2, none⟩ = some (.int .u64 ya) ∧ w'.cell? ⟨w2.heap.size, 3, none⟩ = some (.int .u64 yb)) ∧ (w'.cell? ⟨w3.heap.size, 0, none⟩ = some (.int .i64 yk) ∧ w'.cell? ⟨w3.heap.size, 1, none⟩ = some (.int .i64 yd) ∧ w'.cell? ⟨w3.heap.size, 2, none⟩ = some (.int .u64 ya) ∧ w'.cell? ⟨w3.heap.size, 3, none⟩ = some (.int .u64 yb))) (first | exact hS0 | assumption)
    (first
      | (go_at_call 19; refine (H19.out _ (by assumption) (by assumption)).mono ?_; rintro e w' ⟨rfl, hm', hw'⟩)
      | (go_at_call 20; refine (H20.out _ (by assumption) (by assumption)).mono ?_; rintro e w' ⟨rfl, hm', hw'⟩)
      | (go_at_call 21; refine (H21.out _ _ _ _ _ _ _ _ _ (by assumption) (by assumption)).mono ?_; rintro e w' ⟨rfl, hm', hw'⟩)
      | (go_at_call 22; refine (H22.out _ _ _ _ _ _ _ _ _ (by assumption) (by assumption)).mono ?_; rintro e w' ⟨rfl, hm', hw'⟩)
      | (go_at_call 23; refine (H23.out _ (by assumption) (by assumption)).mono ?_; rintro e w' ⟨rfl, hm', hw'⟩)
      | (go_at_call 24; refine (H24.out _ (by assumption) (by assumption)).mono ?_; rintro e w' ⟨rfl, hm', hw'⟩)
      | (go_at_call 9; refine (H9.out _ (by assumption) (by assumption)).mono ?_; rintro e w' ⟨rfl, hm', hw'⟩))
  all_goals go_wp2
  all_goals go_ret
  all_goals exact ⟨rfl, (show Tl w _ w.heap.size (w.heap.size + 1) w2.heap.size w3.heap.size ⟨ak, ad, aa, ab⟩ ⟨bk, bd, ba, bb⟩ ⟨yk, yd, ya, yb⟩ from Hid.out (by assumption)).bel⟩

theorem tells_walk (a b : Ac) (ho : a.Ok) (s : ByteArray) (w : World) (h : Std w) :
    Calls Tryd.prog 4 #[acV a, acV b, .string s] w fun e w' => e = .returned (.bool true) ∧ Below w.heap.size w w' := by
  by_cases hs : 200 < s.size
  · exact tells_long a b s hs w h
  · exact tells_short a b ho s (by omega) w h
end Go.Proofs.YtoeopapnegjooaaDoor
