/- The fixed calls that every statement of this layer asks for come out as they must: known returns true; nothing that lay before is changed. Condition: the tables stand in their variables. -/
import Derived.Test.YtoeopapnegjooaaDoorM
namespace Go.Proofs.YtoeopapnegjooaaDoor
open Go.RowKit

theorem run_ex {w : World} {p b : Nat} {s : St} {m : Nat} (h : Mem 62 w p b s) (hc : Cnt s m) (hm : m ≤ 1000) (q : Option Addr) (n c : Nat) (l : List Ac) (hn : l.length = n) (hn2 : n ≤ 1000) (hS : Script w p b q l) :
    Calls Tryd.prog 12 #[.pointer (some ⟨p, 0, none⟩), .slice q n c] w fun e w' => ∃ g, e = .returned (.slice (some ⟨g, 0, none⟩) n n) ∧ w.heap.size ≤ g ∧ IsRes w' g n (resF s l) ∧ Turns 62 p b w w' (runT s l) :=
  (run_at h hc hm q n c l hn hn2 hS).mono fun _ _ ⟨he, hR, hT⟩ => ⟨_, he, Nat.le_refl _, hR, hT⟩

def knL : List Ac := [⟨2, 1, 5, 0⟩, ⟨1, 1, 0, 0⟩, ⟨3, 1, 5, 6⟩, ⟨9, 0, 0, 0⟩]
def knS : St := ⟨[0, 0, 0, 0], 0, 0⟩
/-- What the fixed calls rest on. -/
structure Kno (w0 w : World) (gs gl gr : Nat) : Prop where
  s : IsAc w gs ⟨2, 1, 5, 0⟩
  l : IsAc w gl ⟨1, 1, 0, 0⟩
  r : IsRes w gr 4 (resF knS knL)
  std : Std w
  bel : Below w0.heap.size w0 w
theorem Kno.below {w0 w w' : World} {gs gl gr : Nat} (h : Kno w0 w gs gl gr) (k : Below w.heap.size w w') : Kno w0 w' gs gl gr :=
  ⟨h.s.below k, h.l.below k, h.r.below k, h.std.below k, bel_trans h.bel k⟩
theorem Kno.cells {w0 w : World} {gs gl gr : Nat} (h : Kno w0 w gs gl gr) :
    (w.cell? ⟨gr, 0, none⟩ = some (.int .u64 0) ∧ w.cell? ⟨gr, 1, none⟩ = some (.bool false) ∧ w.cell? ⟨gr, 2, none⟩ = some (.int .i64 0)) ∧ w.cell? ⟨gr, 3, none⟩ = some (.int .u64 5) ∧ w.cell? ⟨gr, 7, none⟩ = some (.bool true) ∧ w.cell? ⟨gr, 11, none⟩ = some (.int .i64 1) := by
  obtain ⟨a, b, c⟩ := h.r.cells 0 (by decide)
  exact ⟨⟨a, b, c⟩, (h.r.cells 1 (by decide)).1, (h.r.cells 2 (by decide)).2.1, (h.r.cells 3 (by decide)).2.2⟩
theorem kn_script (w : World) (p b : Nat) (h1 : w.heap.size ≠ p) (h2 : w.heap.size ≠ b) (o : Obj)
    (ho : o = .cells #[.int .i64 2, .int .i64 1, .int .u64 5, .int .u64 0, .int .i64 1, .int .i64 1, .int .u64 0, .int .u64 0, .int .i64 3, .int .i64 1, .int .u64 5, .int .u64 6, .int .i64 9, .int .i64 0, .int .u64 0, .int .u64 0] 40 (0, 0)) :
    Script (w.alloc o) p b (some ⟨w.heap.size, 0, none⟩) knL := by
  intro _
  subst ho
  have hb := heap_alloc_new w (.cells #[.int .i64 2, .int .i64 1, .int .u64 5, .int .u64 0, .int .i64 1, .int .i64 1, .int .u64 0, .int .u64 0, .int .i64 3, .int .i64 1, .int .u64 5, .int .u64 6, .int .i64 9, .int .i64 0, .int .u64 0, .int .u64 0] 40 (0, 0))
  refine ⟨_, 0, rfl, ⟨lt_of_block hb, h1, h2⟩, fun i hi => ?_⟩
  have hi4 : i < 4 := hi
  match i, hi4 with
  | 0, _ => exact ⟨cell_of hb rfl, cell_of hb rfl, cell_of hb rfl, cell_of hb rfl⟩
  | 1, _ => exact ⟨cell_of hb rfl, cell_of hb rfl, cell_of hb rfl, cell_of hb rfl⟩
  | 2, _ => exact ⟨cell_of hb rfl, cell_of hb rfl, cell_of hb rfl, cell_of hb rfl⟩
  | 3, _ => exact ⟨cell_of hb rfl, cell_of hb rfl, cell_of hb rfl, cell_of hb rfl⟩

set_option maxRecDepth 100000 in
set_option maxHeartbeats 4000000 in
theorem known_yes (w0 : World) (h : Std w0) : Calls Tryd.prog 9 #[] w0 fun e w' => e = .returned (.bool true) ∧ Below w0.heap.size w0 w' := by
  have HS := Lib.hid h
  clear h
  go_enter Tryd.func9, Tryd.ntmps9
  go_wp2_with fail
  refine (new_yes 4 w0 (by decide) (by decide)).mono ?_
  rintro e w1 ⟨rfl, hM, hB1⟩
  have HM := Lib.hid hM
  have HB1 := Lib.hid hB1
  clear hM hB1
  go_wp2_with fail
  have hA1 : IsAc ((w1.alloc (.cells (acC ⟨2, 1, 5, 0⟩) 40)).alloc (.cells (acC ⟨1, 1, 0, 0⟩) 40)) w1.heap.size ⟨2, 1, 5, 0⟩ := (IsAc.new w1 _).below (below_alloc _ _)
  have hA2 : IsAc ((w1.alloc (.cells (acC ⟨2, 1, 5, 0⟩) 40)).alloc (.cells (acC ⟨1, 1, 0, 0⟩) 40)) (w1.heap.size + 1) ⟨1, 1, 0, 0⟩ := by
    have := IsAc.new (w1.alloc (.cells (acC ⟨2, 1, 5, 0⟩) 40)) ⟨1, 1, 0, 0⟩
    simpa using this
  have hB2 : Below w1.heap.size w1 ((w1.alloc (.cells (acC ⟨2, 1, 5, 0⟩) 40)).alloc (.cells (acC ⟨1, 1, 0, 0⟩) 40)) := zkeep (below_alloc _ _) _
  obtain ⟨W2, hW2⟩ : ∃ W2, ((w1.alloc (.cells (acC ⟨2, 1, 5, 0⟩) 40)).alloc (.cells (acC ⟨1, 1, 0, 0⟩) 40)) = W2 := ⟨_, rfl⟩
  have hsz : w1.heap.size + 1 + 1 = W2.heap.size := by rw [← hW2]; simp
  rw [hsz]
  rw [hW2] at hA1 hA2 hB2 ⊢
  have hl := HM.out.lt
  have hl2 := hB2.size
  have hB3 := below_alloc W2 (.cells #[.int .i64 2, .int .i64 1, .int .u64 5, .int .u64 0, .int .i64 1, .int .i64 1, .int .u64 0, .int .u64 0, .int .i64 3, .int .i64 1, .int .u64 5, .int .u64 6, .int .i64 9, .int .i64 0, .int .u64 0, .int .u64 0] 40 (0, 0))
  refine (run_ex (s := knS) (m := 0) ((HM.out.below hB2).below hB3) ⟨by decide, by decide, by decide, by decide⟩ (by decide) _ 4 4 knL rfl (by decide) (kn_script W2 _ _ (by omega) (by omega) _ rfl)).mono ?_
  rintro e w3 ⟨gr, rfl, hgr, hR, hT⟩
  have n1 : w1.heap.size ≠ w0.heap.size + 1 := by omega
  have n2 : w1.heap.size ≠ w0.heap.size := by omega
  have n3 : w1.heap.size + 1 ≠ w0.heap.size + 1 := by omega
  have n4 : w1.heap.size + 1 ≠ w0.heap.size := by omega
  have q1 := (hA1.below hB3)
  have q2 := (hA2.below hB3)
  have B3 : Below w0.heap.size w0 w3 := (HB1.out.trans ((bel_trans hB2 hB3).mono HB1.out.size)).trans (hT.2.below (by have := HB1.out.size; have := hB3.size; omega) (by omega) (by omega))
  have K3 : Kno w0 w3 w1.heap.size (w1.heap.size + 1) gr :=
    ⟨(hT.2.block _ q1.lt n1 n2).trans q1, (hT.2.block _ q2.lt n3 n4).trans q2, hR, HS.out.below B3, B3⟩
  have HK3 := Lib.hid K3
  clear hR hT K3 q1 q2 B3 n1 n2 n3 n4 hB3 hgr hA1 hA2 hB2 hW2 hsz hl hl2 HM HB1
  go_wp2_with fail
  have hp1 := parse_at ⟨#[99, 97, 115, 32, 51, 32, 49, 32, 50]⟩ (by decide) w3 HK3.out.std
  rw [parse_k] at hp1
  refine hp1.mono ?_
  clear hp1
  rintro e w4 ⟨rfl, K4⟩
  have HK4 := Lib.hid (HK3.out.below K4)
  clear K4 HK3
  unfold resV
  simp only []
  go_wp2_with fail
  have hA : IsAc (w4.alloc (.cells (acC ⟨3, 3, 1, 2⟩) 40)) w4.heap.size ⟨3, 3, 1, 2⟩ := IsAc.new w4 _
  have K4' := HK4.out.below (below_alloc w4 (.cells (acC ⟨3, 3, 1, 2⟩) 40))
  have hp2 := parse_at ⟨#[99, 97, 115, 32, 51, 32, 48, 49, 32, 50]⟩ (by decide) (w4.alloc (.cells (acC ⟨3, 3, 1, 2⟩) 40)) K4'.std
  rw [parse_k2] at hp2
  refine hp2.mono ?_
  clear hp2
  rintro e w5 ⟨rfl, K5⟩
  have HK5 := Lib.hid (K4'.below K5)
  have HA5 := Lib.hid (hA.below K5)
  clear K4' K5 HK4 hA
  unfold resV noAc
  simp only []
  obtain ⟨⟨r0, r1, r2⟩, r3, r7, r11⟩ := HK5.out.cells
  have lr := HK5.out.r.lt
  have a0 : w5.cell? ⟨w4.heap.size, 0, none⟩ = some (.int .i64 3) := HA5.out.c0
  have a1 : w5.cell? ⟨w4.heap.size, 1, none⟩ = some (.int .i64 3) := HA5.out.c1
  have a2 : w5.cell? ⟨w4.heap.size, 2, none⟩ = some (.int .u64 1) := HA5.out.c2
  have a3 : w5.cell? ⟨w4.heap.size, 3, none⟩ = some (.int .u64 2) := HA5.out.c3
  have s0 : w5.cell? ⟨w1.heap.size, 0, none⟩ = some (.int .i64 2) := HK5.out.s.c0
  have s1 : w5.cell? ⟨w1.heap.size, 1, none⟩ = some (.int .i64 1) := HK5.out.s.c1
  have s2 : w5.cell? ⟨w1.heap.size, 2, none⟩ = some (.int .u64 5) := HK5.out.s.c2
  have s3 : w5.cell? ⟨w1.heap.size, 3, none⟩ = some (.int .u64 0) := HK5.out.s.c3
  have l0 : w5.cell? ⟨w1.heap.size + 1, 0, none⟩ = some (.int .i64 1) := HK5.out.l.c0
  have l1 : w5.cell? ⟨w1.heap.size + 1, 1, none⟩ = some (.int .i64 1) := HK5.out.l.c1
  have l2 : w5.cell? ⟨w1.heap.size + 1, 2, none⟩ = some (.int .u64 0) := HK5.out.l.c2
  have l3 : w5.cell? ⟨w1.heap.size + 1, 3, none⟩ = some (.int .u64 0) := HK5.out.l.c3
  have la := HA5.out.lt
  have ls := HK5.out.s.lt
  have ll := HK5.out.l.lt
  go_wp2_with fail
  have hs1 := show_at ⟨3, 3, 1, 2⟩ ok_k (w5.alloc (.cells #[.int .i64 0, .int .i64 0, .int .u64 0, .int .u64 0] 40)) (HK5.out.below (below_alloc _ _)).std
  rw [show_k] at hs1
  refine hs1.mono ?_
  clear hs1
  rintro e w6 ⟨rfl, K6⟩
  have HK6 := Lib.hid ((HK5.out.below (below_alloc _ _)).below K6)
  clear K6 HK5 HA5 a0 a1 a2 a3 r0 r1 r2 r3 r7 r11 lr la ls ll s0 s1 s2 s3 l0 l1 l2 l3
  have s0 : w6.cell? ⟨w1.heap.size, 0, none⟩ = some (.int .i64 2) := HK6.out.s.c0
  have s1 : w6.cell? ⟨w1.heap.size, 1, none⟩ = some (.int .i64 1) := HK6.out.s.c1
  have s2 : w6.cell? ⟨w1.heap.size, 2, none⟩ = some (.int .u64 5) := HK6.out.s.c2
  have s3 : w6.cell? ⟨w1.heap.size, 3, none⟩ = some (.int .u64 0) := HK6.out.s.c3
  have l0 : w6.cell? ⟨w1.heap.size + 1, 0, none⟩ = some (.int .i64 1) := HK6.out.l.c0
  have l1 : w6.cell? ⟨w1.heap.size + 1, 1, none⟩ = some (.int .i64 1) := HK6.out.l.c1
  have l2 : w6.cell? ⟨w1.heap.size + 1, 2, none⟩ = some (.int .u64 0) := HK6.out.l.c2
  have l3 : w6.cell? ⟨w1.heap.size + 1, 3, none⟩ = some (.int .u64 0) := HK6.out.l.c3
  go_wp2_with fail
  refine (lays_at ⟨2, 1, 5, 0⟩ w6).mono ?_
  rintro e w7 ⟨rfl, K⟩
  have HK7 := Lib.hid (HK6.out.below K)
  clear K HK6
  rw [show laysB ⟨2, 1, 5, 0⟩ = true from rfl]
  clear s0 s1 s2 s3 l0 l1 l2 l3
  have s0 : w7.cell? ⟨w1.heap.size, 0, none⟩ = some (.int .i64 2) := HK7.out.s.c0
  have s1 : w7.cell? ⟨w1.heap.size, 1, none⟩ = some (.int .i64 1) := HK7.out.s.c1
  have s2 : w7.cell? ⟨w1.heap.size, 2, none⟩ = some (.int .u64 5) := HK7.out.s.c2
  have s3 : w7.cell? ⟨w1.heap.size, 3, none⟩ = some (.int .u64 0) := HK7.out.s.c3
  have l0 : w7.cell? ⟨w1.heap.size + 1, 0, none⟩ = some (.int .i64 1) := HK7.out.l.c0
  have l1 : w7.cell? ⟨w1.heap.size + 1, 1, none⟩ = some (.int .i64 1) := HK7.out.l.c1
  have l2 : w7.cell? ⟨w1.heap.size + 1, 2, none⟩ = some (.int .u64 0) := HK7.out.l.c2
  have l3 : w7.cell? ⟨w1.heap.size + 1, 3, none⟩ = some (.int .u64 0) := HK7.out.l.c3
  go_wp2_with fail
  refine (lays_at ⟨1, 1, 0, 0⟩ w7).mono ?_
  rintro e w8 ⟨rfl, K⟩
  have HK8 := Lib.hid (HK7.out.below K)
  clear K HK7
  rw [show laysB ⟨1, 1, 0, 0⟩ = false from rfl]
  clear s0 s1 s2 s3 l0 l1 l2 l3
  have s0 : w8.cell? ⟨w1.heap.size, 0, none⟩ = some (.int .i64 2) := HK8.out.s.c0
  have s1 : w8.cell? ⟨w1.heap.size, 1, none⟩ = some (.int .i64 1) := HK8.out.s.c1
  have s2 : w8.cell? ⟨w1.heap.size, 2, none⟩ = some (.int .u64 5) := HK8.out.s.c2
  have s3 : w8.cell? ⟨w1.heap.size, 3, none⟩ = some (.int .u64 0) := HK8.out.s.c3
  have l0 : w8.cell? ⟨w1.heap.size + 1, 0, none⟩ = some (.int .i64 1) := HK8.out.l.c0
  have l1 : w8.cell? ⟨w1.heap.size + 1, 1, none⟩ = some (.int .i64 1) := HK8.out.l.c1
  have l2 : w8.cell? ⟨w1.heap.size + 1, 2, none⟩ = some (.int .u64 0) := HK8.out.l.c2
  have l3 : w8.cell? ⟨w1.heap.size + 1, 3, none⟩ = some (.int .u64 0) := HK8.out.l.c3
  go_wp2_with fail
  refine (meets_at ⟨1, 1, 0, 0⟩ ⟨2, 1, 5, 0⟩ w8).mono ?_
  rintro e w9 ⟨rfl, K⟩
  have HK9 := Lib.hid (HK8.out.below K)
  clear K HK8
  rw [show meetsB ⟨1, 1, 0, 0⟩ ⟨2, 1, 5, 0⟩ = true from rfl]
  clear s0 s1 s2 s3 l0 l1 l2 l3
  have s0 : w9.cell? ⟨w1.heap.size, 0, none⟩ = some (.int .i64 2) := HK9.out.s.c0
  have s1 : w9.cell? ⟨w1.heap.size, 1, none⟩ = some (.int .i64 1) := HK9.out.s.c1
  have s2 : w9.cell? ⟨w1.heap.size, 2, none⟩ = some (.int .u64 5) := HK9.out.s.c2
  have s3 : w9.cell? ⟨w1.heap.size, 3, none⟩ = some (.int .u64 0) := HK9.out.s.c3
  have l0 : w9.cell? ⟨w1.heap.size + 1, 0, none⟩ = some (.int .i64 1) := HK9.out.l.c0
  have l1 : w9.cell? ⟨w1.heap.size + 1, 1, none⟩ = some (.int .i64 1) := HK9.out.l.c1
  have l2 : w9.cell? ⟨w1.heap.size + 1, 2, none⟩ = some (.int .u64 0) := HK9.out.l.c2
  have l3 : w9.cell? ⟨w1.heap.size + 1, 3, none⟩ = some (.int .u64 0) := HK9.out.l.c3
  go_wp2_with fail
  refine (meets_at ⟨1, 1, 0, 0⟩ ⟨1, 1, 0, 0⟩ w9).mono ?_
  rintro e w10 ⟨rfl, K⟩
  have HK10 := Lib.hid (HK9.out.below K)
  clear K HK9
  rw [show meetsB ⟨1, 1, 0, 0⟩ ⟨1, 1, 0, 0⟩ = false from rfl]
  clear s0 s1 s2 s3 l0 l1 l2 l3
  have s0 : w10.cell? ⟨w1.heap.size, 0, none⟩ = some (.int .i64 2) := HK10.out.s.c0
  have s1 : w10.cell? ⟨w1.heap.size, 1, none⟩ = some (.int .i64 1) := HK10.out.s.c1
  have s2 : w10.cell? ⟨w1.heap.size, 2, none⟩ = some (.int .u64 5) := HK10.out.s.c2
  have s3 : w10.cell? ⟨w1.heap.size, 3, none⟩ = some (.int .u64 0) := HK10.out.s.c3
  have l0 : w10.cell? ⟨w1.heap.size + 1, 0, none⟩ = some (.int .i64 1) := HK10.out.l.c0
  have l1 : w10.cell? ⟨w1.heap.size + 1, 1, none⟩ = some (.int .i64 1) := HK10.out.l.c1
  have l2 : w10.cell? ⟨w1.heap.size + 1, 2, none⟩ = some (.int .u64 0) := HK10.out.l.c2
  have l3 : w10.cell? ⟨w1.heap.size + 1, 3, none⟩ = some (.int .u64 0) := HK10.out.l.c3
  go_wp2_with fail
  have hs2 := show_at ⟨0, 0, 0, 0⟩ ⟨by decide, by decide, by decide, by decide, by decide⟩ w10 HK10.out.std
  rw [show showB ⟨0, 0, 0, 0⟩ = ⟨#[]⟩ from rfl] at hs2
  refine hs2.mono ?_
  clear hs2
  rintro e w11 ⟨rfl, K⟩
  have HK11 := Lib.hid (HK10.out.below K)
  clear K HK10
  go_wp2
  go_ret
  exact ⟨rfl, HK11.out.bel⟩
end Go.Proofs.YtoeopapnegjooaaDoor
