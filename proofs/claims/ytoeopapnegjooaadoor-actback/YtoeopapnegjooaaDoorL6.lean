/- The walk of ActBack: for every act and every text it returns true; nothing that lay before is changed. Condition: the tables stand in their variables. -/
import Derived.Test.YtoeopapnegjooaaDoorO
namespace Go.Proofs.YtoeopapnegjooaaDoor
open Go.RowKit

set_option maxHeartbeats 400000 in
theorem back_long (x : Ac) (s : ByteArray) (hs : 200 < s.size) (w : World) (h : Std w) :
    Calls Tryd.prog 6 #[acV x, .string s] w fun e w' => e = .returned (.bool true) ∧ Below w.heap.size w w' := by
  have HS := Lib.hid h
  have hd : decide ((200 : Int) < s.size) = true := by simp; omega
  clear h hs
  go_enter Tryd.func6, Tryd.ntmps6
  go_wp2_with fail
  refine (known_yes _ (HS.out.below (below_alloc _ _))).mono ?_
  rintro e w2 ⟨rfl, K⟩
  go_wp2
  go_ret
  exact ⟨rfl, bel_trans (below_alloc _ _) K⟩

theorem shown_size {x : Ac} (ho : x.Ok) (hne : showB x ≠ ⟨#[]⟩) : (showB x).size ≤ 100 := by
  have hS := shown_of ho hne
  rw [size_list]
  generalize (showB x).data.toList = l at hS
  have hd : ∀ n, n < 18446744073709551616 → (Lib.decDigits n).length ≤ 20 := fun n h => by
    have := dg_size n h
    rw [size_list] at this
    exact this
  cases hS with
  | load n h => have := hd n (by omega); simp [wLoad]; omega
  | store n a h ha => have := hd n (by omega); have := hd a ha; simp [wStore]; omega
  | cas n a b h ha hb => have := hd n (by omega); have := hd a ha; have := hd b hb; simp [wCas]; omega
  | add n a h ha => have := hd n (by omega); have := hd a ha; simp [wAdd]; omega
theorem bytes_ne {t : ByteArray} (h : (t.toList == []) = false) : t.toList.isEmpty = false := by
  cases e : t.toList with
  | nil => rw [e] at h; simp at h
  | cons => rfl

set_option maxRecDepth 100000 in
set_option maxHeartbeats 2000000 in
theorem back_fs (x : Ac) (ho : x.Ok) (s : ByteArray) (hs : s.size ≤ 200) (hne : showB x ≠ ⟨#[]⟩) (c : Ac) (hc : parseO s = some c) (w : World) (h : Std w) :
    Calls Tryd.prog 6 #[acV x, .string s] w fun e w' => e = .returned (.bool true) ∧ Below w.heap.size w w' := by
  have HS := Lib.hid h
  have hd : decide ((200 : Int) < s.size) = false := by simp; omega
  have HSh := Lib.hid (fun w h => show_at x ho w h)
  have HP2 := Lib.hid (fun w h => parse_at s (by omega) w h)
  rw [hc] at HP2
  have HP1 := Lib.hid (fun w h => parse_at (showB x) (by
    have := shown_size ho hne
    omega) w h)
  rw [parse_show ho hne] at HP1
  have et : ((showB x).toList == []) = false := by
    rw [beq_eq_false_iff_ne]
    intro e
    apply hne
    rw [Lib.toList_data] at e
    exact ByteArray.ext (Array.toList_inj.1 e)
  have et2 := bytes_ne et
  generalize showB x = t at *
  have HSc := Lib.hid (fun w h => show_at c (parseO_ok hc) w h)
  rw [parse_text hc] at HSc
  obtain ⟨ck, cd, ca, cb⟩ := c
  clear h hs ho hne hc
  obtain ⟨xk, xd, xa, xb⟩ := x
  go_enter Tryd.func6, Tryd.ntmps6
  go_wp2_with fail
  have A1 : IsAc (w.alloc (.cells (acC ⟨xk, xd, xa, xb⟩) 40)) w.heap.size ⟨xk, xd, xa, xb⟩ := IsAc.new w _
  refine (HSh.out _ (HS.out.below (below_alloc _ _))).mono ?_
  rintro e w2 ⟨rfl, K⟩
  have A2 := A1.below K
  have HB2 := Lib.hid (bel_trans (below_alloc w (.cells (acC ⟨xk, xd, xa, xb⟩) 40)) K)
  clear K A1
  go_wp2_with fail
  refine (HP1.out _ (HS.out.below HB2.out)).mono ?_
  rintro e w3 ⟨rfl, K⟩
  have A3 := A2.below K
  have HB3 := Lib.hid (bel_trans HB2.out K)
  clear K A2
  unfold resV
  simp only []
  go_wp2_with fail
  have A4 := A3.below (below_alloc w3 (.cells (acC ⟨xk, xd, xa, xb⟩) 40))
  have D4 : IsAc (w3.alloc (.cells (acC ⟨xk, xd, xa, xb⟩) 40)) w3.heap.size ⟨xk, xd, xa, xb⟩ := IsAc.new w3 _
  have HB4 := Lib.hid (zkeep HB3.out (.cells (acC ⟨xk, xd, xa, xb⟩) 40))
  refine (HP2.out _ (HS.out.below HB4.out)).mono ?_
  rintro e w5 ⟨rfl, K⟩
  have A5 := A4.below K
  have D5 := D4.below K
  have HB5 := Lib.hid (bel_trans HB4.out K)
  clear K A3 A4 D4
  unfold resV
  simp only []
  have x0 : w5.cell? ⟨w.heap.size, 0, none⟩ = some (.int .i64 xk) := A5.c0
  have x1 : w5.cell? ⟨w.heap.size, 1, none⟩ = some (.int .i64 xd) := A5.c1
  have x2 : w5.cell? ⟨w.heap.size, 2, none⟩ = some (.int .u64 xa) := A5.c2
  have x3 : w5.cell? ⟨w.heap.size, 3, none⟩ = some (.int .u64 xb) := A5.c3
  have y0 : w5.cell? ⟨w3.heap.size, 0, none⟩ = some (.int .i64 xk) := D5.c0
  have y1 : w5.cell? ⟨w3.heap.size, 1, none⟩ = some (.int .i64 xd) := D5.c1
  have y2 : w5.cell? ⟨w3.heap.size, 2, none⟩ = some (.int .u64 xa) := D5.c2
  have y3 : w5.cell? ⟨w3.heap.size, 3, none⟩ = some (.int .u64 xb) := D5.c3
  have lx := A5.lt
  have ly := D5.lt
  clear A5 D5
  go_wp2_with fail
  have HB6 := Lib.hid (zkeep HB5.out (.cells (acC ⟨ck, cd, ca, cb⟩) 40))
  refine (HSc.out _ (HS.out.below HB6.out)).mono ?_
  rintro e w7 ⟨rfl, K⟩
  have HB7 := Lib.hid (bel_trans HB6.out K)
  clear K
  have eqs := eq_bytes s
  go_wp2_with fail
  refine (known_yes _ (HS.out.below HB7.out)).mono ?_
  rintro e w8 ⟨rfl, K⟩
  go_wp2
  go_ret
  exact ⟨rfl, bel_trans HB7.out K⟩
set_option maxRecDepth 100000 in
set_option maxHeartbeats 2000000 in
theorem back_fn (x : Ac) (ho : x.Ok) (s : ByteArray) (hs : s.size ≤ 200) (hne : showB x ≠ ⟨#[]⟩) (hc : parseO s = none) (w : World) (h : Std w) :
    Calls Tryd.prog 6 #[acV x, .string s] w fun e w' => e = .returned (.bool true) ∧ Below w.heap.size w w' := by
  have HS := Lib.hid h
  have hd : decide ((200 : Int) < s.size) = false := by simp; omega
  have HSh := Lib.hid (fun w h => show_at x ho w h)
  have HP2 := Lib.hid (fun w h => parse_at s (by omega) w h)
  rw [hc] at HP2
  have HP1 := Lib.hid (fun w h => parse_at (showB x) (by
    have := shown_size ho hne
    omega) w h)
  rw [parse_show ho hne] at HP1
  have et : ((showB x).toList == []) = false := by
    rw [beq_eq_false_iff_ne]
    intro e
    apply hne
    rw [Lib.toList_data] at e
    exact ByteArray.ext (Array.toList_inj.1 e)
  have et2 := bytes_ne et
  generalize showB x = t at *
  clear h hs ho hne hc
  obtain ⟨xk, xd, xa, xb⟩ := x
  go_enter Tryd.func6, Tryd.ntmps6
  go_wp2_with fail
  have A1 : IsAc (w.alloc (.cells (acC ⟨xk, xd, xa, xb⟩) 40)) w.heap.size ⟨xk, xd, xa, xb⟩ := IsAc.new w _
  refine (HSh.out _ (HS.out.below (below_alloc _ _))).mono ?_
  rintro e w2 ⟨rfl, K⟩
  have A2 := A1.below K
  have HB2 := Lib.hid (bel_trans (below_alloc w (.cells (acC ⟨xk, xd, xa, xb⟩) 40)) K)
  clear K A1
  go_wp2_with fail
  refine (HP1.out _ (HS.out.below HB2.out)).mono ?_
  rintro e w3 ⟨rfl, K⟩
  have A3 := A2.below K
  have HB3 := Lib.hid (bel_trans HB2.out K)
  clear K A2
  unfold resV
  simp only []
  go_wp2_with fail
  have A4 := A3.below (below_alloc w3 (.cells (acC ⟨xk, xd, xa, xb⟩) 40))
  have D4 : IsAc (w3.alloc (.cells (acC ⟨xk, xd, xa, xb⟩) 40)) w3.heap.size ⟨xk, xd, xa, xb⟩ := IsAc.new w3 _
  have HB4 := Lib.hid (zkeep HB3.out (.cells (acC ⟨xk, xd, xa, xb⟩) 40))
  refine (HP2.out _ (HS.out.below HB4.out)).mono ?_
  rintro e w5 ⟨rfl, K⟩
  have A5 := A4.below K
  have D5 := D4.below K
  have HB5 := Lib.hid (bel_trans HB4.out K)
  clear K A3 A4 D4
  unfold resV noAc
  simp only []
  have x0 : w5.cell? ⟨w.heap.size, 0, none⟩ = some (.int .i64 xk) := A5.c0
  have x1 : w5.cell? ⟨w.heap.size, 1, none⟩ = some (.int .i64 xd) := A5.c1
  have x2 : w5.cell? ⟨w.heap.size, 2, none⟩ = some (.int .u64 xa) := A5.c2
  have x3 : w5.cell? ⟨w.heap.size, 3, none⟩ = some (.int .u64 xb) := A5.c3
  have y0 : w5.cell? ⟨w3.heap.size, 0, none⟩ = some (.int .i64 xk) := D5.c0
  have y1 : w5.cell? ⟨w3.heap.size, 1, none⟩ = some (.int .i64 xd) := D5.c1
  have y2 : w5.cell? ⟨w3.heap.size, 2, none⟩ = some (.int .u64 xa) := D5.c2
  have y3 : w5.cell? ⟨w3.heap.size, 3, none⟩ = some (.int .u64 xb) := D5.c3
  have lx := A5.lt
  have ly := D5.lt
  clear A5 D5
  go_wp2_with fail
  have HB6 := Lib.hid (zkeep HB5.out (.cells (acC ⟨0, 0, 0, 0⟩) 40))
  refine (known_yes _ (HS.out.below HB6.out)).mono ?_
  rintro e w8 ⟨rfl, K⟩
  go_wp2
  go_ret
  exact ⟨rfl, bel_trans HB6.out K⟩
set_option maxRecDepth 100000 in
set_option maxHeartbeats 2000000 in
theorem back_es (x : Ac) (ho : x.Ok) (s : ByteArray) (hs : s.size ≤ 200) (hne : showB x = ⟨#[]⟩) (c : Ac) (hc : parseO s = some c) (w : World) (h : Std w) :
    Calls Tryd.prog 6 #[acV x, .string s] w fun e w' => e = .returned (.bool true) ∧ Below w.heap.size w w' := by
  have HS := Lib.hid h
  have hd : decide ((200 : Int) < s.size) = false := by simp; omega
  have HSh := Lib.hid (fun w h => show_at x ho w h)
  have HP2 := Lib.hid (fun w h => parse_at s (by omega) w h)
  rw [hc] at HP2
  have HP1 := Lib.hid (fun w h => parse_at ⟨#[]⟩ (by decide) w h)
  rw [parse_empty] at HP1
  rw [hne] at HSh
  have HSc := Lib.hid (fun w h => show_at c (parseO_ok hc) w h)
  rw [parse_text hc] at HSc
  obtain ⟨ck, cd, ca, cb⟩ := c
  clear h hs ho hne hc
  obtain ⟨xk, xd, xa, xb⟩ := x
  go_enter Tryd.func6, Tryd.ntmps6
  go_wp2_with fail
  have A1 : IsAc (w.alloc (.cells (acC ⟨xk, xd, xa, xb⟩) 40)) w.heap.size ⟨xk, xd, xa, xb⟩ := IsAc.new w _
  refine (HSh.out _ (HS.out.below (below_alloc _ _))).mono ?_
  rintro e w2 ⟨rfl, K⟩
  have A2 := A1.below K
  have HB2 := Lib.hid (bel_trans (below_alloc w (.cells (acC ⟨xk, xd, xa, xb⟩) 40)) K)
  clear K A1
  go_wp2_with fail
  refine (HP1.out _ (HS.out.below HB2.out)).mono ?_
  rintro e w3 ⟨rfl, K⟩
  have A3 := A2.below K
  have HB3 := Lib.hid (bel_trans HB2.out K)
  clear K A2
  unfold resV noAc
  simp only []
  go_wp2_with fail
  have A4 := A3.below (below_alloc w3 (.cells (acC ⟨0, 0, 0, 0⟩) 40))
  have D4 : IsAc (w3.alloc (.cells (acC ⟨0, 0, 0, 0⟩) 40)) w3.heap.size ⟨0, 0, 0, 0⟩ := IsAc.new w3 _
  have HB4 := Lib.hid (zkeep HB3.out (.cells (acC ⟨0, 0, 0, 0⟩) 40))
  refine (HP2.out _ (HS.out.below HB4.out)).mono ?_
  rintro e w5 ⟨rfl, K⟩
  have A5 := A4.below K
  have D5 := D4.below K
  have HB5 := Lib.hid (bel_trans HB4.out K)
  clear K A3 A4 D4
  unfold resV
  simp only []
  have x0 : w5.cell? ⟨w.heap.size, 0, none⟩ = some (.int .i64 xk) := A5.c0
  have x1 : w5.cell? ⟨w.heap.size, 1, none⟩ = some (.int .i64 xd) := A5.c1
  have x2 : w5.cell? ⟨w.heap.size, 2, none⟩ = some (.int .u64 xa) := A5.c2
  have x3 : w5.cell? ⟨w.heap.size, 3, none⟩ = some (.int .u64 xb) := A5.c3
  have lx := A5.lt
  have ly := D5.lt
  clear A5 D5
  go_wp2_with fail
  have HB6 := Lib.hid (zkeep HB5.out (.cells (acC ⟨ck, cd, ca, cb⟩) 40))
  refine (HSc.out _ (HS.out.below HB6.out)).mono ?_
  rintro e w7 ⟨rfl, K⟩
  have HB7 := Lib.hid (bel_trans HB6.out K)
  clear K
  have eqs := eq_bytes s
  go_wp2_with fail
  refine (known_yes _ (HS.out.below HB7.out)).mono ?_
  rintro e w8 ⟨rfl, K⟩
  go_wp2
  go_ret
  exact ⟨rfl, bel_trans HB7.out K⟩
set_option maxRecDepth 100000 in
set_option maxHeartbeats 2000000 in
theorem back_en (x : Ac) (ho : x.Ok) (s : ByteArray) (hs : s.size ≤ 200) (hne : showB x = ⟨#[]⟩) (hc : parseO s = none) (w : World) (h : Std w) :
    Calls Tryd.prog 6 #[acV x, .string s] w fun e w' => e = .returned (.bool true) ∧ Below w.heap.size w w' := by
  have HS := Lib.hid h
  have hd : decide ((200 : Int) < s.size) = false := by simp; omega
  have HSh := Lib.hid (fun w h => show_at x ho w h)
  have HP2 := Lib.hid (fun w h => parse_at s (by omega) w h)
  rw [hc] at HP2
  have HP1 := Lib.hid (fun w h => parse_at ⟨#[]⟩ (by decide) w h)
  rw [parse_empty] at HP1
  rw [hne] at HSh
  clear h hs ho hne hc
  obtain ⟨xk, xd, xa, xb⟩ := x
  go_enter Tryd.func6, Tryd.ntmps6
  go_wp2_with fail
  have A1 : IsAc (w.alloc (.cells (acC ⟨xk, xd, xa, xb⟩) 40)) w.heap.size ⟨xk, xd, xa, xb⟩ := IsAc.new w _
  refine (HSh.out _ (HS.out.below (below_alloc _ _))).mono ?_
  rintro e w2 ⟨rfl, K⟩
  have A2 := A1.below K
  have HB2 := Lib.hid (bel_trans (below_alloc w (.cells (acC ⟨xk, xd, xa, xb⟩) 40)) K)
  clear K A1
  go_wp2_with fail
  refine (HP1.out _ (HS.out.below HB2.out)).mono ?_
  rintro e w3 ⟨rfl, K⟩
  have A3 := A2.below K
  have HB3 := Lib.hid (bel_trans HB2.out K)
  clear K A2
  unfold resV noAc
  simp only []
  go_wp2_with fail
  have A4 := A3.below (below_alloc w3 (.cells (acC ⟨0, 0, 0, 0⟩) 40))
  have D4 : IsAc (w3.alloc (.cells (acC ⟨0, 0, 0, 0⟩) 40)) w3.heap.size ⟨0, 0, 0, 0⟩ := IsAc.new w3 _
  have HB4 := Lib.hid (zkeep HB3.out (.cells (acC ⟨0, 0, 0, 0⟩) 40))
  refine (HP2.out _ (HS.out.below HB4.out)).mono ?_
  rintro e w5 ⟨rfl, K⟩
  have A5 := A4.below K
  have D5 := D4.below K
  have HB5 := Lib.hid (bel_trans HB4.out K)
  clear K A3 A4 D4
  unfold resV noAc
  simp only []
  have x0 : w5.cell? ⟨w.heap.size, 0, none⟩ = some (.int .i64 xk) := A5.c0
  have x1 : w5.cell? ⟨w.heap.size, 1, none⟩ = some (.int .i64 xd) := A5.c1
  have x2 : w5.cell? ⟨w.heap.size, 2, none⟩ = some (.int .u64 xa) := A5.c2
  have x3 : w5.cell? ⟨w.heap.size, 3, none⟩ = some (.int .u64 xb) := A5.c3
  have lx := A5.lt
  have ly := D5.lt
  clear A5 D5
  go_wp2_with fail
  have HB6 := Lib.hid (zkeep HB5.out (.cells (acC ⟨0, 0, 0, 0⟩) 40))
  refine (known_yes _ (HS.out.below HB6.out)).mono ?_
  rintro e w8 ⟨rfl, K⟩
  go_wp2
  go_ret
  exact ⟨rfl, bel_trans HB6.out K⟩

theorem back_walk (x : Ac) (ho : x.Ok) (s : ByteArray) (w : World) (h : Std w) :
    Calls Tryd.prog 6 #[acV x, .string s] w fun e w' => e = .returned (.bool true) ∧ Below w.heap.size w w' := by
  by_cases hs : 200 < s.size
  · exact back_long x s hs w h
  · have hs' : s.size ≤ 200 := by omega
    by_cases hne : showB x = ⟨#[]⟩
    · cases hc : parseO s with
      | none => exact back_en x ho s hs' hne hc w h
      | some c => exact back_es x ho s hs' hne c hc w h
    · cases hc : parseO s with
      | none => exact back_fn x ho s hs' hne hc w h
      | some c => exact back_fs x ho s hs' hne c hc w h
end Go.Proofs.YtoeopapnegjooaaDoor
