/- What the library's sort of a list of integers returns, at this program's numbers: the same list, rising. Laid by the library's own tool; no conditions beyond those that each names. What All returns: the frames of the tables, rising, in a row of its own; none of tables that are not live. Conditions: the words and frames lie in memory. What the calls of tables that are none, are zero, or were dropped, return: an error each, and nothing is changed. No conditions. What New and Drop return and leave. Conditions: the words and frames lie in memory; few calls have been counted. -/
import Derived.Test.YtpfmmlbakbhklaaGreatDoorProg
import Derived.Test.YtpfmmlbakbhklaaGreatDoorBM
import Derived.Shelf.Sort.Plain
import Derived.Shelf.Slices.In.SortNone
import Derived.Sort.OwnSortedInts
namespace Go.Proofs.YtpfmmlbakbhklaaGreatDoor
open Go.Shelf
def lays189_ren : Go.Shelf.Ren := ⟨fun | 189 => 53 | 125 => 92 | 257 => 91 | 128 => 130 | 129 => 131 | 294 => 121 | 295 => 122 | 296 => 123 | 297 => 124 | 298 => 125 | 299 => 126 | 216 => 127 | 300 => 128 | 301 => 129 | 328 => 158 | 329 => 159 | 330 => 160 | 331 => 161 | 332 => 162 | 215 => 163 | 343 => 192 | n => n, fun | 28 => 44 | 3 => 3 | 46 => 155 | 0 => 0 | 51 => 193 | 53 => 67 | 4 => 4 | 183 => 186 | 182 => 185 | 131 => 190 | 5 => 5 | 9 => 9 | 218 => 225 | 222 => 229 | 228 => 239 | 229 => 240 | n => n, fun | n => n⟩
theorem lays189 : Go.Proofs.Lays.n189 Tryz.prog lays189_ren := {
  mixed := by kernel_rfl
  f125 := Tryz.func92.trans (congrArg some (by kernel_rfl))
  f128 := Tryz.func130.trans (congrArg some (by kernel_rfl))
  f129 := Tryz.func131.trans (congrArg some (by kernel_rfl))
  f189 := Tryz.func53.trans (congrArg some (by kernel_rfl))
  f215 := Tryz.func163.trans (congrArg some (by kernel_rfl))
  f216 := Tryz.func127.trans (congrArg some (by kernel_rfl))
  f257 := Tryz.func91.trans (congrArg some (by kernel_rfl))
  f294 := Tryz.func121.trans (congrArg some (by kernel_rfl))
  f295 := Tryz.func122.trans (congrArg some (by kernel_rfl))
  f296 := Tryz.func123.trans (congrArg some (by kernel_rfl))
  f297 := Tryz.func124.trans (congrArg some (by kernel_rfl))
  f298 := Tryz.func125.trans (congrArg some (by kernel_rfl))
  f299 := Tryz.func126.trans (congrArg some (by kernel_rfl))
  f300 := Tryz.func128.trans (congrArg some (by kernel_rfl))
  f301 := Tryz.func129.trans (congrArg some (by kernel_rfl))
  f328 := Tryz.func158.trans (congrArg some (by kernel_rfl))
  f329 := Tryz.func159.trans (congrArg some (by kernel_rfl))
  f330 := Tryz.func160.trans (congrArg some (by kernel_rfl))
  f331 := Tryz.func161.trans (congrArg some (by kernel_rfl))
  f332 := Tryz.func162.trans (congrArg some (by kernel_rfl))
  f343 := Tryz.func192.trans (congrArg some (by kernel_rfl))
  t0 := Tryz.underlying0
  a0 := Tryz.isAgg0
  z0 := Tryz.sizeOf0
  v0 := Tryz.zeroValue0
  t3 := Tryz.underlying3
  a3 := Tryz.isAgg3
  z3 := Tryz.sizeOf3
  v3 := Tryz.zeroValue3
  t4 := Tryz.underlying4
  a4 := Tryz.isAgg4
  z4 := Tryz.sizeOf4
  v4 := Tryz.zeroValue4
  t5 := Tryz.underlying5
  a5 := Tryz.isAgg5
  z5 := Tryz.sizeOf5
  v5 := Tryz.zeroValue5
  t9 := Tryz.underlying9
  a9 := Tryz.isAgg9
  z9 := Tryz.sizeOf9
  v9 := Tryz.zeroValue9
  t28 := Tryz.underlying44
  a28 := Tryz.isAgg44
  z28 := Tryz.sizeOf44
  v28 := Tryz.zeroValue44
  t46 := Tryz.underlying155
  a46 := Tryz.isAgg155
  z46 := Tryz.sizeOf155
  v46 := Tryz.zeroValue155
  t51 := Tryz.underlying193
  a51 := Tryz.isAgg193
  z51 := Tryz.sizeOf193
  v51 := Tryz.zeroValue193
  t53 := Tryz.underlying67
  a53 := Tryz.isAgg67
  z53 := Tryz.sizeOf67
  v53 := Tryz.zeroValue67
  t131 := Tryz.underlying190
  a131 := Tryz.isAgg190
  z131 := Tryz.sizeOf190
  v131 := Tryz.zeroValue190
  t182 := Tryz.underlying185
  a182 := Tryz.isAgg185
  z182 := Tryz.sizeOf185
  v182 := Tryz.zeroValue185
  t183 := Tryz.underlying186
  a183 := Tryz.isAgg186
  z183 := Tryz.sizeOf186
  v183 := Tryz.zeroValue186
  t218 := Tryz.underlying225
  a218 := Tryz.isAgg225
  z218 := Tryz.sizeOf225
  v218 := Tryz.zeroValue225
  t222 := Tryz.underlying229
  a222 := Tryz.isAgg229
  z222 := Tryz.sizeOf229
  v222 := Tryz.zeroValue229
  t228 := Tryz.underlying239
  a228 := Tryz.isAgg239
  z228 := Tryz.sizeOf239
  v228 := Tryz.zeroValue239
  t229 := Tryz.underlying240
  a229 := Tryz.isAgg240
  z229 := Tryz.sizeOf240
  v229 := Tryz.zeroValue240 }
open Go.Sort Go.RowKit in
theorem slices_Sort_int (blk off cap : Nat) (zs : List Int) (w : World) (hH : Holds (Value.int .i64) w blk off zs.toArray) (hblk : blk < w.heap.size) (hsz : zs.length < 4611686018427387904) :
    Calls Tryz.prog 53 #[.slice (some ⟨blk, off, none⟩) zs.length cap] w fun e w' =>
      e = .returned (.tuple #[]) ∧ ∃ n os, w' = grow (putRow (Value.int .i64) (Sort.ahead w n) blk off (zs.mergeSort fun x y => decide (x ≤ y)).toArray) os := Any.slices_Sort_int lays189 blk off cap zs w hH hblk hsz
theorem slices_Sort_int_none (p : Option Addr) (cap : Nat) (w : World) :
    Calls Tryz.prog 53 #[.slice p 0 cap] w fun e w' => e = .returned (.tuple #[]) ∧ w' = w := Any.slices_Sort_int_none lays189 p cap w
end Go.Proofs.YtpfmmlbakbhklaaGreatDoor
namespace Go.Proofs.YtpfmmlbakbhklaaGreatDoor
open Go.RowKit Go.Sort

/-- What All tells. -/
def allL (xs : List Int) (root : Int) : List Int := ((gat xs root).map (·.1)).mergeSort fun x y => decide (x ≤ y)
theorem allL_len (xs : List Int) (root : Int) : (allL xs root).length = (gat xs root).length := by simp [allL]
theorem info3' : (Tryz.prog.info? 3).map (fun i => (i.zero, i.size, i.bytes)) = some (some (.int .i64 0), 1, 8) := by kernel_rfl
theorem cell_one (w : World) (x : Value) (t : TypeId) : ∀ j u, [x][j]? = some u → (w.alloc (.cells #[x] t)).cell? ((⟨w.heap.size, 0, none⟩ : Addr).add j) = some u := fun j u hj => by
  rw [Addr.add_lit, Nat.zero_add]
  exact P.cell_of (heap_alloc_new w _) (by simpa using hj)
theorem take_get {l : List (Int × Nat)} {i : Nat} (h : i < l.length) : (l.take (i + 1)).map (·.1) = (l.take i).map (·.1) ++ [(l.getD i (0, 0)).1] := by
  rw [List.take_add_one, List.getElem?_eq_getElem h, List.map_append]
  simp [List.getD, h]
/-- A row's block. -/
theorem row_block {W : World} {n e size m : Nat} {g cap k : Nat} {xs : List Value} (h : W.ownsRow n e size (.slice (some ⟨g, 0, none⟩) m cap) k xs) :
    n ≤ g ∧ ∃ cur, W.heap[g]? = some (.cells cur e (0, 0)) ∧ k ≤ cap ∧ cap ≤ maxLen ∧ cur.size = cap * size ∧ cur.toList.take (k * size) = xs := by
  rcases h.2 with ⟨h, -⟩ | ⟨g', cap', cur, hgg, hb, hgh, h1, h2, h3, htk⟩
  · cases h
  · injection hgg with a b c
    injection a with a
    injection a with a
    subst a c
    exact ⟨hb, cur, hgh, h1, h2, h3, htk⟩
section
variable {u : Si} {w : World} {t : Nat} {st o root : Int} {s : Sm} {k : Nat}
set_option maxHeartbeats 400000 in
theorem all_no (hT : IsT u w t st o root) (hs : st ≠ 1) :
    Calls Tryz.prog 16 #[.pointer (some ⟨t, 0, none⟩)] w fun r w' => r = .returned (.slice none 0 0) ∧ w' = w := by
  have HL := hid (isLive_at hT)
  have hb : (st == 1) = false := by simpa using hs
  rw [hb] at HL
  clear hT hs hb
  go_enter Tryz.func16, Tryz.ntmps16
  go_wp2_with fail
  refine HL.out.mono ?_
  rintro e w' ⟨rfl, hw'⟩
  rw [hw']
  clear hw' w'
  go_wp2
  go_ret
  exact ⟨rfl, rfl⟩
set_option maxHeartbeats 400000 in
theorem all_nil (w : World) :
    Calls Tryz.prog 16 #[.pointer none] w fun r w' => r = .returned (.slice none 0 0) ∧ w' = w := by
  have HL := hid (isLive_nil w)
  go_enter Tryz.func16, Tryz.ntmps16
  go_wp2_with fail
  refine HL.out.mono ?_
  rintro e w' ⟨rfl, hw'⟩
  rw [hw']
  clear hw' w'
  go_wp2
  go_ret
  exact ⟨rfl, rfl⟩
set_option maxRecDepth 100000 in
set_option maxHeartbeats 2000000 in
theorem all_at (hT : IsT u w t 1 o root) (h : Wo u w s k) :
    Calls Tryz.prog 16 #[.pointer (some ⟨t, 0, none⟩)] w fun r w' => ∃ v, r = .returned v ∧ w'.ownsRow w.heap.size 3 1 v (allL s.xs root).length ((allL s.xs root).map (Value.int .i64)) ∧ Below w.heap.size w w' := by
  obtain ⟨i0, hi, hz0, hz1, hz2⟩ := info_parts info3'
  have HINF := hid (And.intro hi (And.intro hz0 (And.intro hz1 hz2)))
  have HLV := hid (isLive_at hT)
  rw [show ((1 : Int) == 1) = true from rfl] at HLV
  have HTP := hid (top_at hT)
  have HGA := hid (fun W (b : Below w.heap.size w W) => gather_at (hT.below b) (h.below b))
  have hal : allL s.xs root = ((gat s.xs root).map (·.1)).mergeSort fun x y => decide (x ≤ y) := rfl
  have HAL := hid hal
  have hgl := gat_len s.xs root
  have hlen : allL s.xs root = allL s.xs root → (allL s.xs root).length = (gat s.xs root).length := fun _ => allL_len _ _
  have HALN := hid (hlen rfl)
  have hg1 : 1 ≤ (gat s.xs root).length := by rw [gat_self]; simp
  generalize allL s.xs root = AL at *
  generalize gat s.xs root = G at *
  obtain ⟨n, hn⟩ : ∃ n, G.length = n + 1 := ⟨G.length - 1, by omega⟩
  have HN := hid hn
  have hn5 : n ≤ 5000 := by omega
  clear hT h hal hlen hg1 hgl hi hz0 hz1 hz2 hn
  go_enter Tryz.func16, Tryz.ntmps16
  go_wp2_with fail
  refine HLV.out.mono ?_
  rintro e w' ⟨rfl, hw'⟩
  rw [hw']
  clear hw' w'
  go_wp2_with fail
  refine HTP.out.mono ?_
  rintro e w1 ⟨rfl, hB1⟩
  have HG1 := hid (HGA.out w1 hB1)
  have HB1 := hid hB1
  clear hB1 HGA
  go_wp2_with fail
  refine HG1.out.mono ?_
  rintro e w2 ⟨⟨v, rfl, hrow⟩, hB2⟩
  rw [HN.out] at hrow
  obtain ⟨g, cap, rfl⟩ := ownsRow_succ hrow
  obtain ⟨hgb, cur, hgh, hgc, -, -, htk⟩ := row_block hrow
  have hcell : ∀ j y, (tbL G)[j]? = some y → j < (n + 1) * 2 → cur[j]? = some y := fun j y hj hl => by
    rw [← htk] at hj
    rw [List.getElem?_take_of_lt hl] at hj
    simpa using hj
  have HCE := hid hcell
  have HGH := hid hgh
  have HB2 := hid (HB1.out.trans (hB2.mono HB1.out.size))
  clear hB2 hrow hgb hgh htk hcell HG1
  go_wp2
  go_loopw [3, 15] (fun v p wr => ∃ i : Nat, p = .int .i64 i ∧ i ≤ n + 1 ∧ wr.ownsRow w.heap.size 3 1 v i (((G.take i).map (·.1)).map (Value.int .i64)) ∧ wr.heap[g]? = some (.cells cur 93 (0, 0)) ∧ Below w.heap.size w wr) (fun _ p _ => n + 1 - (intOf p).toNat)
  case atStart => exact ⟨0, rfl, Nat.zero_le _, ⟨by simp, .inl ⟨rfl, rfl⟩⟩, HGH.out, HB2.out⟩
  case round =>
    obtain ⟨i, rfl, hi, hrow, hgr, hBr⟩ := hrel
    have HROW := hid hrow
    have HGR := hid hgr
    have HBR := hid hBr
    by_cases hlt : i < n + 1
    · obtain ⟨d0, d1⟩ := tbL_at G i (by rw [HN.out]; exact hlt)
      have c0 := P.cell_of hgr (HCE.out _ _ d0 (by omega))
      have c1 := P.cell_of hgr (HCE.out _ _ d1 (by omega))
      have HTK := hid (take_get (l := G) (i := i) (by rw [HN.out]; exact hlt))
      generalize G.getD i (0, 0) = x at *
      obtain ⟨xf, xv⟩ := x
      simp only at c0 c1 HTK
      have hlt' : (i : Int) < (n : Int) + 1 := by omega
      have hwr : wrap64 ((i : Int) + 1) = ((i + 1 : Nat) : Int) := by unfold wrap64; omega
      have hsz := HBR.out.size
      obtain ⟨hi3, hz0, hz1, hz2⟩ := HINF.out
      have hco := cell_one (wr.alloc (.cells #[.int .i64 xf, .int .i64 (xv : Nat)] 93)) (.int .i64 xf) 3
      rw [show (wr.alloc (.cells #[.int .i64 xf, .int .i64 (xv : Nat)] 93)).heap.size = wr.heap.size + 1 by simp] at hco
      have HCO := hid hco
      clear hco
      clear d0 d1 hrow hgr hBr
      go_wp2_with (first | (at_builtin; refine wpList_append_own _ rfl _ _ 44 rfl w.heap.size 3 i0 (.int .i64 0) 1 8 Tryz.underlying44 hi3 hz0 hz1 hz2 rfl (by decide) _ _ _ rfl ((HROW.out.alloc _).alloc _) ⟨wr.heap.size + 1, 0, none⟩ 1 1 [.int .i64 xf] rfl rfl HCO.out (by intro u hu; simp at hu; subst hu; rfl) (by unfold maxLen; omega) (by omega) (by simp; omega) ?_; intro v' w3 hown' hg3 hnil3; go_frame) | go_in)
      have hg3' : ((wr.alloc (.cells #[.int .i64 xf, .int .i64 (xv : Nat)] 93)).alloc (.cells #[.int .i64 xf] 3)).grownBy w3 u3.ownBlock := hg3
      have HG3 := hid hg3'
      have HOW := hid hown'
      clear hg3 hg3' hnil3 hown'
      have hnot : ∀ e : some g = u3.ownBlock, False := fun e => by
        have h1 := HROW.out.2
        rcases h1 with ⟨h, -⟩ | ⟨g', cap', cur', hgg, -, hgh, -⟩
        · rw [h] at e; simp [Value.ownBlock] at e
        · rw [hgg] at e
          simp [Value.ownBlock] at e
          subst e
          rw [HGR.out] at hgh
          injection hgh with hgh
          injection hgh with _ hgh _
          cases hgh
      refine ⟨⟨i + 1, by go_num, by omega, ?_, ?_, ?_⟩, by simp [intOf]; omega⟩
      · rw [HTK.out, List.map_append]
        exact HOW.out
      · have := lt_of_block HGR.out
        exact (HG3.out.block g (by simp; omega) hnot).trans (P.hkeep (P.hkeep HGR.out _) _)
      · exact ((HBR.out.alloc HBR.out.size _).alloc (by simp; omega) _).grown HG3.out (by simp; omega) (fun j hj => (HROW.out.lt _ hj).1)
    · obtain rfl : i = n + 1 := by omega
      have htk : G.take (n + 1) = G := by rw [← HN.out, List.take_length]
      rw [htk] at hrow
      obtain ⟨g', cap', rfl⟩ := ownsRow_succ hrow
      obtain ⟨hgb, cur', hgh, h1, h2, h3, h4⟩ := row_block hrow
      have hl : (G.map (·.1)).length = n + 1 := by simp [HN.out]
      have hH : Holds (Value.int .i64) wr g' 0 (G.map (·.1)).toArray := holds_of_blockI hgh (by rw [hl]; simpa using h4)
      have hc := slices_Sort_int g' 0 cap' (G.map (·.1)) wr hH (lt_of_block hgh) (by omega)
      rw [hl, ← HAL.out] at hc
      have HR := hid (fun (m : Nat) (os : Array Obj) => ownsRow_sortedI (w := wr) (n := m) (os := os) (ss := G.map (·.1)) (ts := AL) (by rw [HALN.out]; simp) hgb hgh (by rw [hl]; exact h1) h2 h3)
      rw [hl] at HR
      have HC := hid hc
      have HGB := hid hgb
      have hltn : ¬ (((n + 1 : Nat) : Int) < (n : Int) + 1) := by omega
      clear hrow hgr hBr htk hgb hgh h1 h2 h3 h4 hl hH hc hlt
      go_wp2_with fail
      refine HC.out.mono ?_
      rintro e w4 ⟨rfl, m, os, hw4⟩
      have HW4 := hid hw4
      clear hw4
      go_wp2
      go_ret
      refine ⟨_, rfl, ?_, ?_⟩
      · rw [HW4.out, HALN.out, HN.out]
        have := HR.out m os
        obtain ⟨k1, k2⟩ := this
        refine ⟨k1, ?_⟩
        rcases k2 with k2 | k2
        · exact .inl k2
        · exact .inr k2
      · rw [HW4.out]
        exact HBR.out.grown (grownBy_sortedI _) HBR.out.size (fun j hj => by cases hj; exact HGB.out)
end
end Go.Proofs.YtpfmmlbakbhklaaGreatDoor
namespace Go.Proofs.YtpfmmlbakbhklaaGreatDoor
open Go.RowKit
/-- Tables of which nothing may be asked: e is told. -/
structure Dd (w : World) (p : Option Addr) (e : Int) : Prop where
  fault : ∀ W, Below w.heap.size w W → ∀ pg, Calls Tryz.prog 59 #[.pointer p, .int .i64 pg] W fun r w' => r = .returned (.int .i64 e) ∧ w' = W
  live : ∀ W, Below w.heap.size w W → Calls Tryz.prog 49 #[.pointer p] W fun r w' => r = .returned (.bool false) ∧ w' = W
  ne : (e != 0) = true
theorem Dd.none (w : World) : Dd w none 10 := ⟨fun W _ pg => fault_nil W pg, fun W _ => isLive_nil W, rfl⟩
set_option maxHeartbeats 400000 in
theorem Dd.zero {w : World} {t : Nat} (c0 : w.cell? ⟨t, 0, Option.none⟩ = some (.int .i64 0)) : Dd w (some ⟨t, 0, Option.none⟩) 10 := by
  have hc : ∀ W, Below w.heap.size w W → W.cell? ⟨t, 0, Option.none⟩ = some (.int .i64 0) := fun W b => (b.cell (p := ⟨t, 0, Option.none⟩) (World.block_lt_of_cell? _ ⟨t, 0, Option.none⟩ c0)).trans c0
  refine ⟨fun W b pg => ?_, fun W b => ?_, rfl⟩
  · have c := hc W b
    clear hc b c0
    go_enter Tryz.func59, Tryz.ntmps59
    go_wp2
    go_ret
    exact ⟨rfl, rfl⟩
  · have c := hc W b
    clear hc b c0
    go_enter Tryz.func49, Tryz.ntmps49
    go_wp2
    go_ret
    exact ⟨rfl, rfl⟩
set_option maxHeartbeats 400000 in
theorem Dd.two {w : World} {t : Nat} (c0 : w.cell? ⟨t, 0, Option.none⟩ = some (.int .i64 2)) : Dd w (some ⟨t, 0, Option.none⟩) 6 := by
  have hc : ∀ W, Below w.heap.size w W → W.cell? ⟨t, 0, Option.none⟩ = some (.int .i64 2) := fun W b => (b.cell (p := ⟨t, 0, Option.none⟩) (World.block_lt_of_cell? _ ⟨t, 0, Option.none⟩ c0)).trans c0
  refine ⟨fun W b pg => ?_, fun W b => ?_, rfl⟩
  · have c := hc W b
    clear hc b c0
    go_enter Tryz.func59, Tryz.ntmps59
    go_wp2
    go_ret
    exact ⟨rfl, rfl⟩
  · have c := hc W b
    clear hc b c0
    go_enter Tryz.func49, Tryz.ntmps49
    go_wp2
    go_ret
    exact ⟨rfl, rfl⟩
theorem Dd.below {w w' : World} {p : Option Addr} {e : Int} (h : Dd w p e) (b : Below w.heap.size w w') : Dd w' p e :=
  ⟨fun W c => h.fault W (b.trans (c.mono b.size)), fun W c => h.live W (b.trans (c.mono b.size)), h.ne⟩
section
variable {w : World} {p : Option Addr} {e : Int}
set_option maxHeartbeats 400000 in
theorem find_dead (h : Dd w p e) (pg : Int) : Calls Tryz.prog 46 #[.pointer p, .int .i64 pg] w fun r w' => r = .returned (.tuple #[.agg zeC, .int .i64 e]) ∧ Below w.heap.size w w' := by
  have hB := below_alloc w (.cells zeC 97)
  have hN := heap_alloc_new w (.cells zeC 97)
  have HF := hid (h.fault _ hB pg)
  have HB := hid hB
  have HN := hid hN
  have hne := h.ne
  obtain ⟨x0, x1, x2, x3, x4, x5, x6⟩ := seven hN
  obtain ⟨y0, y1, y2, y3, y4, y5, y6⟩ := free7 hN
  clear h hB hN
  go_enter Tryz.func46, Tryz.ntmps46
  go_wp2_with fail
  refine HF.out.mono ?_
  rintro r w1 ⟨rfl, rfl⟩
  go_wp2
  refine bodyPost_ret (P.results_row_tmp rfl _ _ w.heap.size _ rfl (run_loadVar_row _ _ 97 97 _ (0, 0) _ HN.out Tryz.underlying97 rfl size97)) rfl ?_
  exact ⟨rfl, HB.out⟩
set_option maxHeartbeats 400000 in
theorem query_dead (h : Dd w p e) (pg : Int) : Calls Tryz.prog 13 #[.pointer p, .int .i64 pg] w fun r w' => r = .returned (.tuple #[.int .i64 0, .int .i64 0, .int .i64 e]) ∧ Below w.heap.size w w' := by
  have HF := hid (find_dead h pg)
  have hne := h.ne
  clear h
  go_enter Tryz.func13, Tryz.ntmps13
  go_wp2_with fail
  refine HF.out.mono ?_
  rintro r w1 ⟨rfl, hB1⟩
  have HB1 := hid (hB1.alloc hB1.size (.cells zeC 97))
  clear hB1
  go_wp2
  go_ret3
  exact ⟨rfl, HB1.out⟩
set_option maxHeartbeats 400000 in
theorem unmap_dead (h : Dd w p e) (pg : Int) : Calls Tryz.prog 23 #[.pointer p, .int .i64 pg] w fun r w' => r = .returned (.tuple #[.int .i64 0, .int .i64 e]) ∧ Below w.heap.size w w' := by
  have HF := hid (find_dead h pg)
  have hne := h.ne
  clear h
  go_enter Tryz.func23, Tryz.ntmps23
  go_wp2_with fail
  refine HF.out.mono ?_
  rintro r w1 ⟨rfl, hB1⟩
  have HB1 := hid (hB1.alloc hB1.size (.cells zeC 97))
  clear hB1
  go_wp2
  go_ret2
  exact ⟨rfl, HB1.out⟩
set_option maxHeartbeats 400000 in
theorem protect_dead (h : Dd w p e) (pg rr : Int) : Calls Tryz.prog 24 #[.pointer p, .int .i64 pg, .int .i64 rr] w fun r w' => r = .returned (.int .i64 e) ∧ w' = w := by
  have HF := hid (h.fault w (Below.refl _ _) pg)
  have hne := h.ne
  clear h
  go_enter Tryz.func24, Tryz.ntmps24
  go_wp2_with fail
  refine HF.out.mono ?_
  rintro r w1 ⟨rfl, hw1⟩
  rw [hw1]
  clear hw1 w1
  go_wp2
  go_ret
  exact ⟨rfl, rfl⟩
set_option maxHeartbeats 400000 in
theorem putFault_dead (h : Dd w p e) (pg lo : Int) (ep : Bool) (er : Int) (el : Bool) (ef : Int) :
    Calls Tryz.prog 95 #[.pointer p, .int .i64 pg, .int .i64 lo, .agg #[.bool ep, .int .i64 er, .bool el, .int .i64 ef]] w fun r w' => r = .returned (.int .i64 e) ∧ Below w.heap.size w w' := by
  have hB := below_alloc w (.cells #[.bool ep, .int .i64 er, .bool el, .int .i64 ef] 95)
  have HB := hid hB
  have HF := hid (h.fault _ hB pg)
  have hne := h.ne
  clear h hB
  go_enter Tryz.func95, Tryz.ntmps95
  go_wp2_with fail
  refine HF.out.mono ?_
  rintro r w1 ⟨rfl, hw1⟩
  rw [hw1]
  clear hw1 w1
  go_wp2
  go_ret
  exact ⟨rfl, HB.out⟩
set_option maxRecDepth 100000 in
set_option maxHeartbeats 1000000 in
theorem put_dead (h : Dd w p e) (pg lo : Int) (ep : Bool) (er : Int) (el : Bool) (ef : Int) :
    Calls Tryz.prog 55 #[.pointer p, .int .i64 pg, .int .i64 lo, .agg #[.bool ep, .int .i64 er, .bool el, .int .i64 ef]] w fun r w' => r = .returned (.int .i64 e) ∧ Below w.heap.size w w' := by
  have B3 : Below w.heap.size w (((w.alloc (.cells #[.pointer p] 30)).alloc (.cells #[.int .i64 lo] 3)).alloc (.cells #[.bool ep, .int .i64 er, .bool el, .int .i64 ef] 95)) := ((below_alloc _ _).alloc (by simp) _).alloc (by simp; omega) _
  have HF := hid (putFault_dead (h.below B3) pg lo ep er el ef)
  have HB3 := hid B3
  have hne := h.ne
  clear h B3
  refine callsIn_wide.1 (show CallsIn Fence.wide 3 Tryz.prog 55 _ _ _ from ?_)
  refine callsIn_of_wp_marks Tryz.func55 rfl trivial ?_ rfl
  simp only [Tryz.ntmps55, List.size_toArray, List.length_cons, List.length_nil, Nat.reduceAdd, Nat.reduceSub, Array.replicate_succ, Array.replicate_zero, List.push_toArray, List.append_toArray, List.nil_append, List.cons_append]
  gi_wp2_with fail
  refine ⟨trivial, (callsIn_wide.2 HF.out).mono ?_⟩
  rintro r w1 ⟨rfl, hB1⟩
  have HB1 := hid (HB3.out.trans (hB1.mono HB3.out.size))
  clear hB1
  gi_wp2
  exact ⟨_, results_tmp rfl _ _ _, rfl, HB1.out⟩
set_option maxHeartbeats 400000 in
theorem map_dead (h : Dd w p e) (pg f r : Int) :
    Calls Tryz.prog 21 #[.pointer p, .int .i64 pg, .int .i64 f, .int .i64 r] w fun x w' => x = .returned (.int .i64 e) ∧ Below w.heap.size w w' := by
  have HP := hid (put_dead h pg 0 true r false f)
  clear h
  go_enter Tryz.func21, Tryz.ntmps21
  go_wp2_with fail
  refine HP.out.mono ?_
  rintro x w1 ⟨rfl, hB⟩
  have HX := hid hB
  clear hB
  go_wp2
  go_ret
  exact ⟨rfl, HX.out⟩
set_option maxHeartbeats 400000 in
theorem large_dead (h : Dd w p e) (pg f r : Int) :
    Calls Tryz.prog 22 #[.pointer p, .int .i64 pg, .int .i64 f, .int .i64 r] w fun x w' => x = .returned (.int .i64 e) ∧ Below w.heap.size w w' := by
  have HP := hid (put_dead h pg 1 true r true f)
  clear h
  go_enter Tryz.func22, Tryz.ntmps22
  go_wp2_with fail
  refine HP.out.mono ?_
  rintro x w1 ⟨rfl, hB⟩
  have HX := hid hB
  clear hB
  go_wp2
  go_ret
  exact ⟨rfl, HX.out⟩
set_option maxHeartbeats 400000 in
theorem all_dead (h : Dd w p e) : Calls Tryz.prog 16 #[.pointer p] w fun r w' => r = .returned (.slice none 0 0) ∧ w' = w := by
  have HL := hid (h.live w (Below.refl _ _))
  clear h
  go_enter Tryz.func16, Tryz.ntmps16
  go_wp2_with fail
  refine HL.out.mono ?_
  rintro e w' ⟨rfl, hw'⟩
  rw [hw']
  clear hw' w'
  go_wp2
  go_ret
  exact ⟨rfl, rfl⟩
set_option maxHeartbeats 400000 in
theorem drop_dead (h : Dd w p e) : Calls Tryz.prog 37 #[.pointer p] w fun r w' => r = .returned (.slice none 0 0) ∧ w' = w := by
  have HL := hid (h.live w (Below.refl _ _))
  clear h
  go_enter Tryz.func37, Tryz.ntmps37
  go_wp2_with fail
  refine HL.out.mono ?_
  rintro e w' ⟨rfl, hw'⟩
  rw [hw']
  clear hw' w'
  go_wp2
  go_ret
  exact ⟨rfl, rfl⟩
set_option maxHeartbeats 400000 in
theorem root_dead (h : Dd w p e) : Calls Tryz.prog 18 #[.pointer p] w fun r w' => r = .returned (.int .i64 (-1)) ∧ w' = w := by
  have HL := hid (h.live w (Below.refl _ _))
  clear h
  go_enter Tryz.func18, Tryz.ntmps18
  go_wp2_with fail
  refine HL.out.mono ?_
  rintro e w' ⟨rfl, hw'⟩
  rw [hw']
  clear hw' w'
  go_wp2
  go_ret
  exact ⟨rfl, rfl⟩
end
end Go.Proofs.YtpfmmlbakbhklaaGreatDoor
namespace Go.Proofs.YtpfmmlbakbhklaaGreatDoor
open Go.RowKit
section
variable {u : Si} {w : World} {s : Sm} {k : Nat}
set_option maxHeartbeats 400000 in
theorem tnew_nopool (v : Value) (w : World) (q : Value) (h : O.NoP w q) (o : Int) :
    Calls Tryz.prog 36 #[v, q, .int .i64 o] w fun r w' => r = .returned (.tuple #[.pointer none, .int .i64 1]) ∧ w' = w := by
  have HP := hid (O.len_none h)
  clear h
  go_enter Tryz.func36, Tryz.ntmps36
  go_wp2_with fail
  refine HP.out.mono ?_
  rintro r w1 ⟨rfl, hw1⟩
  rw [hw1]
  clear hw1 w1
  go_wp2
  go_ret2
  exact ⟨rfl, rfl⟩
set_option maxHeartbeats 400000 in
theorem tnew_few (q : Option Addr) (n : Nat) (hm : Calls Tryz.prog 30 #[.pointer q] w fun r w' => r = .returned (.int .i64 n) ∧ w' = w) (p b : Nat) (L : List O.Ds) (hp : O.PP w p b L) (hn : n < 16 * L.length) (o : Int) :
    Calls Tryz.prog 36 #[.pointer q, .pointer (some ⟨p, 0, none⟩), .int .i64 o] w fun r w' => r = .returned (.tuple #[.pointer none, .int .i64 1]) ∧ w' = w := by
  have HM := hid hm
  have HP := hid (O.len_at hp)
  have h1 := hp.pos
  have h2 := hp.top
  generalize L.length = m at *
  have e0 : ((m : Int) == 0) = false := by rw [beq_eq_false_iff_ne]; omega
  have e1 : wrap64 (16 * (m : Int)) = 16 * (m : Int) := by unfold wrap64; omega
  have e2 : (n : Int) < 16 * (m : Int) := by omega
  clear hm hp hn h1
  go_enter Tryz.func36, Tryz.ntmps36
  go_wp2_with fail
  refine HP.out.mono ?_
  rintro r w1 ⟨rfl, hw1⟩
  rw [hw1]
  clear hw1 w1
  go_wp2_with fail
  refine HM.out.mono ?_
  rintro r w1 ⟨rfl, hw1⟩
  rw [hw1]
  clear hw1 w1
  go_wp2_with fail
  refine HP.out.mono ?_
  rintro r w1 ⟨rfl, hw1⟩
  rw [hw1]
  clear hw1 w1
  go_wp2
  go_ret2
  exact ⟨rfl, rfl⟩
set_option maxHeartbeats 1000000 in
theorem tnew_at (h : Wo u w s k) (hk : k + 20 ≤ bnd) (hn : 16 * s.ds.length ≤ s.xs.length) (o : Int) :
    Calls Tryz.prog 36 #[.pointer (some ⟨u.mp, 0, none⟩), .pointer (some ⟨u.pp, 0, none⟩), .int .i64 o] w fun r w' =>
      r = .returned (.tuple #[.pointer (if newE s o = 0 then some ⟨w.heap.size, 0, none⟩ else none), .int .i64 (newE s o)]) ∧ Wo u w' (newS s o none16) (k + 16) ∧ Ch u w w' ∧ (newE s o = 0 → IsT u w' w.heap.size 1 o (newF s o)) := by
  obtain ⟨d, l, hm, -⟩ := h.mem
  have HM := hid (len_at hm)
  have HP := hid (O.len_at h.pool)
  have h1 := h.pool.pos
  have h2 := h.pool.top
  have h3 := hm.top
  have HW := hid h
  have hB := below_alloc w (.cells #[.int .i64 1, .pointer (some ⟨u.mp, 0, none⟩), .pointer (some ⟨u.pp, 0, none⟩), .int .i64 o, .int .i64 0] 70)
  have hT0 : IsT u (w.alloc (.cells #[.int .i64 1, .pointer (some ⟨u.mp, 0, none⟩), .pointer (some ⟨u.pp, 0, none⟩), .int .i64 o, .int .i64 0] 70)) w.heap.size 1 o 0 := heap_alloc_new w _
  have HN := hid (new_none hT0 (h.below hB) hk)
  have HT0 := hid hT0
  have HB := hid hB
  generalize newS s o none16 = sn at *
  generalize newE s o = ee at *
  generalize newF s o = ff at *
  have hns : ∃ n m : Nat, s.xs.length = n ∧ s.ds.length = m := ⟨_, _, rfl, rfl⟩
  obtain ⟨n, m, en, em⟩ := hns
  rw [en] at HM hn h3
  rw [em] at HP hn h1 h2
  have e0 : ((m : Int) == 0) = false := by rw [beq_eq_false_iff_ne]; omega
  have e1 : wrap64 (16 * (m : Int)) = 16 * (m : Int) := by unfold wrap64; omega
  have e2 : ¬ (n : Int) < 16 * (m : Int) := by omega
  clear h hm hn h1 hB hT0 en em
  by_cases hee : ee = 0
  · subst hee
    rw [if_pos rfl] at HN ⊢
    go_enter Tryz.func36, Tryz.ntmps36
    go_wp2_with fail
    refine HP.out.mono ?_
    rintro r w1 ⟨rfl, hw1⟩
    rw [hw1]
    clear hw1 w1
    go_wp2_with fail
    refine HM.out.mono ?_
    rintro r w1 ⟨rfl, hw1⟩
    rw [hw1]
    clear hw1 w1
    go_wp2_with fail
    refine HP.out.mono ?_
    rintro r w1 ⟨rfl, hw1⟩
    rw [hw1]
    clear hw1 w1
    go_wp2_with fail
    refine HN.out.mono ?_
    rintro r w1 ⟨rfl, hW1, hC1⟩
    have HW1 := hid hW1
    have hT1 := HT0.out.ch (HW.out.below HB.out) hC1
    have HT1 := hid hT1
    have f4 : w1.frozen? ⟨w.heap.size, 4, none⟩ = false := P.free_of hT1
    have c4 := hT1.cells.2.2.2.2
    have HC1 := hid ((Ch.of_below HB.out).trans hC1)
    clear hW1 hC1 hT1
    go_wp2
    go_ret2
    have hb : Below w.heap.size w1 (w1.setCell ⟨w.heap.size, 4, none⟩ (.int .i64 ff)) := (Below.refl _ _).setCell (p := ⟨w.heap.size, 4, none⟩) (Nat.le_refl _) _
    exact ⟨rfl, HW1.out.belowN hb HW.out.lt.1 HW.out.lt.2, HC1.out.below2 hb, fun _ => P.heap_setCell_self HT1.out _⟩
  · rw [if_neg hee] at HN ⊢
    have hee' : (ee != 0) = true := by simpa using hee
    go_enter Tryz.func36, Tryz.ntmps36
    go_wp2_with fail
    refine HP.out.mono ?_
    rintro r w1 ⟨rfl, hw1⟩
    rw [hw1]
    clear hw1 w1
    go_wp2_with fail
    refine HM.out.mono ?_
    rintro r w1 ⟨rfl, hw1⟩
    rw [hw1]
    clear hw1 w1
    go_wp2_with fail
    refine HP.out.mono ?_
    rintro r w1 ⟨rfl, hw1⟩
    rw [hw1]
    clear hw1 w1
    have HEE := hid hee
    clear hee
    go_wp2_with fail
    refine HN.out.mono ?_
    rintro r w1 ⟨rfl, hW1, hC1⟩
    have HW1 := hid hW1
    have HC1 := hid ((Ch.of_below HB.out).trans hC1)
    clear hW1 hC1
    go_wp2
    go_ret2
    exact ⟨rfl, HW1.out, HC1.out, fun e => absurd e HEE.out⟩
end
/-- All is as it was but the memory, its words, the frames, and the tables. -/
structure ChT (u : Si) (t : Nat) (w w' : World) : Prop where
  os : w'.os = w.os
  tape : w'.tape = w.tape
  output : w'.output = w.output
  size : w.heap.size ≤ w'.heap.size
  block : ∀ k, k < w.heap.size → k ≠ u.mp → k ≠ u.wb → k ≠ u.pb → k ≠ t → w'.heap[k]? = w.heap[k]?
section
variable {u : Si} {w : World} {t : Nat} {o root : Int} {s : Sm} {k : Nat}
/-- But for the block t the world is as it was; there, c lies. -/
structure Pu (t : Nat) (c : Array Value) (w w' : World) : Prop where
  os : w'.os = w.os
  tape : w'.tape = w.tape
  output : w'.output = w.output
  size : w'.heap.size = w.heap.size
  block : ∀ k, k ≠ t → w'.heap[k]? = w.heap[k]?
  here : w'.heap[t]? = some (.cells c 70 (0, 0))
theorem size1 (W : World) (p : Addr) (v : Value) : (W.setCell p v).heap.size = W.heap.size := by simp [World.setCell]
theorem puts5 {W : World} {a b c d e : Value} (h : W.heap[t]? = some (.cells #[a, b, c, d, e] 70 (0, 0))) (a' b' c' d' e' : Value) :
    Pu t #[a', b', c', d', e'] W (((((W.setCell ⟨t, 0, none⟩ a').setCell ⟨t, 1, none⟩ b').setCell ⟨t, 2, none⟩ c').setCell ⟨t, 3, none⟩ d').setCell ⟨t, 4, none⟩ e') := by
  have h0 : (W.setCell ⟨t, 0, none⟩ a').heap[t]? = some (.cells #[a', b, c, d, e] 70 (0, 0)) := P.heap_setCell_self h _
  have h1 : ((W.setCell ⟨t, 0, none⟩ a').setCell ⟨t, 1, none⟩ b').heap[t]? = some (.cells #[a', b', c, d, e] 70 (0, 0)) := P.heap_setCell_self h0 _
  have h2 : (((W.setCell ⟨t, 0, none⟩ a').setCell ⟨t, 1, none⟩ b').setCell ⟨t, 2, none⟩ c').heap[t]? = some (.cells #[a', b', c', d, e] 70 (0, 0)) := P.heap_setCell_self h1 _
  have h3 : ((((W.setCell ⟨t, 0, none⟩ a').setCell ⟨t, 1, none⟩ b').setCell ⟨t, 2, none⟩ c').setCell ⟨t, 3, none⟩ d').heap[t]? = some (.cells #[a', b', c', d', e] 70 (0, 0)) := P.heap_setCell_self h2 _
  have h4 : (((((W.setCell ⟨t, 0, none⟩ a').setCell ⟨t, 1, none⟩ b').setCell ⟨t, 2, none⟩ c').setCell ⟨t, 3, none⟩ d').setCell ⟨t, 4, none⟩ e').heap[t]? = some (.cells #[a', b', c', d', e'] 70 (0, 0)) := P.heap_setCell_self h3 _
  have hb := (((((Below.refl 0 W).setCell (p := ⟨t, 0, none⟩) (Nat.zero_le _) a').setCell (p := ⟨t, 1, none⟩) (Nat.zero_le _) b').setCell (p := ⟨t, 2, none⟩) (Nat.zero_le _) c').setCell (p := ⟨t, 3, none⟩) (Nat.zero_le _) d').setCell (p := ⟨t, 4, none⟩) (Nat.zero_le _) e'
  refine ⟨hb.os, hb.tape, hb.output, by rw [size1, size1, size1, size1, size1], fun k hk => ?_, h4⟩
  rw [Below.heap_setCell _ _ _ _ hk, Below.heap_setCell _ _ _ _ hk, Below.heap_setCell _ _ _ _ hk, Below.heap_setCell _ _ _ _ hk, Below.heap_setCell _ _ _ _ hk]
theorem Wg.put (h : Wo u w s k) {st : Int} (hT : IsT u w t st o root) {w' : World} {c : Array Value} (p : Pu t c w w') : Wo u w' s k := by
  obtain ⟨a, b, e⟩ := h.apart hT (by decide) (by decide) (by decide)
  obtain ⟨hc, hh⟩ := h.pool.head
  have hp : t ≠ u.pp := fun e => by
    rw [← e, show w.heap[t]? = _ from hT] at hh
    injection hh with hh
    injection hh with _ hh _
    cases hh
  have h0 : t ≠ 0 := fun e => by
    have h1 := h.tab.hi 0 (by decide)
    subst e
    rw [show w.cell? ⟨0, 0 * 4 + 1, none⟩ = w.cell? ⟨0, 1, none⟩ from rfl, hT.cells.2.1] at h1
    cases h1
  obtain ⟨d, l, hm, hd⟩ := h.mem
  exact ⟨⟨d, l, hm.keep (p.block _ (fun e => a e.symm)) (p.block _ (fun e => b e.symm)), hd⟩, h.pool.keep (p.block _ (fun e => hp e.symm)) (p.block _ (fun x => e x.symm)), h.tab.below (n := 1) ⟨p.os, p.tape, p.output, Nat.le_of_eq p.size.symm, fun j hj => p.block j (by omega)⟩ (by decide) (Nat.le_of_eq p.size.symm), h.u64, h.low, h.ne⟩
theorem turnAll_app (ds : List O.Ds) (l : List Int) (f : Int) : turnAll ds (l ++ [f]) = O.tL (turnAll ds l) f 5 0 := by simp [turnAll]
set_option maxRecDepth 100000 in
set_option maxHeartbeats 2000000 in
theorem drop_at (hT : IsT u w t 1 o root) (h : Wo u w s k) :
    Calls Tryz.prog 37 #[.pointer (some ⟨t, 0, none⟩)] w fun r w' => (∃ v, r = .returned v ∧ w'.ownsRow w.heap.size 3 1 v (allL s.xs root).length ((allL s.xs root).map (Value.int .i64))) ∧ Wo u w' ⟨s.xs, turnAll s.ds (allL s.xs root)⟩ k ∧ ChT u t w w' ∧
      w'.heap[t]? = some (.cells #[.int .i64 2, .pointer none, .pointer none, .int .i64 0, .int .i64 0] 70 (0, 0)) := by
  have HLV := hid (isLive_at hT)
  rw [show ((1 : Int) == 1) = true from rfl] at HLV
  have HAL := hid (all_at hT h)
  have HW := hid h
  have HT := hid hT
  have hgl := gat_len s.xs root
  have hlen : (allL s.xs root).length = (gat s.xs root).length := allL_len _ _
  have hg1 : 1 ≤ (gat s.xs root).length := by rw [gat_self]; simp
  rw [← hlen] at hgl hg1
  generalize allL s.xs root = AL at *
  obtain ⟨n, hn⟩ : ∃ n, AL.length = n + 1 := ⟨AL.length - 1, by omega⟩
  have HN := hid hn
  have hn5 : n ≤ 5000 := by omega
  clear hT h hlen hg1 hgl hn
  go_enter Tryz.func37, Tryz.ntmps37
  go_wp2_with fail
  refine HLV.out.mono ?_
  rintro e w' ⟨rfl, hw'⟩
  rw [hw']
  clear hw' w'
  go_wp2_with fail
  refine HAL.out.mono ?_
  rintro e w2 ⟨v, rfl, hrow, hB2⟩
  rw [HN.out] at hrow
  obtain ⟨g, cap, rfl⟩ := ownsRow_succ hrow
  obtain ⟨hgb, cur, hgh, hgc, -, -, htk⟩ := row_block hrow
  have HROW := hid hrow
  have HGB := hid hgb
  have hcell : ∀ j y, AL[j]? = some y → j < n + 1 → cur[j]? = some (.int .i64 y) := fun j y hj hl => by
    have : (AL.map (Value.int .i64))[j]? = some (.int .i64 y) := by simp [hj]
    rw [← htk] at this
    rw [List.getElem?_take_of_lt (by omega)] at this
    simpa using this
  have HCE := hid hcell
  have HGH := hid hgh
  have HB2 := hid hB2
  have HW2 := hid (HW.out.below hB2)
  have HT2 := hid (HT.out.below hB2)
  clear hB2 hrow hgb hgh htk hcell
  go_wp2
  go_loopw [13] (fun p wr => ∃ i : Nat, p = .int .i64 i ∧ i ≤ n + 1 ∧ Wo u wr ⟨s.xs, turnAll s.ds (AL.take i)⟩ k ∧ Ch u w2 wr) (fun p _ => n + 1 - (intOf p).toNat)
  case atStart => exact ⟨0, rfl, Nat.zero_le _, HW2.out, .refl _ _⟩
  case round =>
    obtain ⟨i, rfl, hi, hWr, hCr⟩ := hrel
    have HWr := hid hWr
    have HCr := hid hCr
    have HTr := hid (HT2.out.ch HW2.out hCr)
    have hgr := HW2.out.keep hCr HGH.out (by decide) (by decide) (by decide)
    have HGR := hid hgr
    by_cases hlt : i < n + 1
    · have hia : i < AL.length := by rw [HN.out]; exact hlt
      have c0 := P.cell_of hgr (HCE.out i AL[i] (List.getElem?_eq_getElem hia) hlt)
      have HTK := hid (show AL.take (i + 1) = AL.take i ++ [AL[i]] by rw [List.take_add_one, List.getElem?_eq_getElem hia]; rfl)
      generalize AL[i] = f at *
      have hlt' : (i : Int) < (n : Int) + 1 := by omega
      have hwr : wrap64 ((i : Int) + 1) = ((i + 1 : Nat) : Int) := by unfold wrap64; omega
      clear hgr hWr hCr hia
      go_wp2_with fail
      refine (retire_at HTr.out HWr.out f).mono ?_
      rintro r w3 ⟨rfl, hW3, hC3⟩
      rw [tL_five] at hW3
      have HW3 := hid hW3
      have HC3 := hid (HCr.out.trans hC3)
      clear hW3 hC3 c0
      go_wp2
      refine ⟨⟨i + 1, by go_num, by omega, ?_, HC3.out⟩, by simp [intOf]; omega⟩
      rw [HTK.out, turnAll_app]
      exact HW3.out
    · obtain rfl : i = n + 1 := by omega
      have hltn : ¬ (((n + 1 : Nat) : Int) < (n : Int) + 1) := by omega
      have htr := HTr.out
      obtain ⟨d0, d1, d2, d3, d4⟩ := HTr.out.cells
      have f0 : wr.frozen? ⟨t, 0, none⟩ = false := P.free_of htr
      have f1 : wr.frozen? ⟨t, 1, none⟩ = false := P.free_of htr
      have f2 : wr.frozen? ⟨t, 2, none⟩ = false := P.free_of htr
      have f3 : wr.frozen? ⟨t, 3, none⟩ = false := P.free_of htr
      have f4 : wr.frozen? ⟨t, 4, none⟩ = false := P.free_of htr
      have htr' := hid htr
      have hgr' := hid hgr
      clear hgr hWr hCr hlt htr
      go_wp2
      go_ret
      have htr' := htr'.out
      have hgr' := hgr'.out
      have hx := puts5 htr' (.int .i64 2) (.pointer none) (.pointer none) (.int .i64 0) (.int .i64 0)
      generalize (((((wr.setCell ⟨t, 0, none⟩ (.int .i64 2)).setCell ⟨t, 1, none⟩ (.pointer none)).setCell ⟨t, 2, none⟩ (.pointer none)).setCell ⟨t, 3, none⟩ (.int .i64 0)).setCell ⟨t, 4, none⟩ (.int .i64 0)) = W at *
      have hgt : g ≠ t := fun e => by
        subst e
        rw [show wr.heap[g]? = _ from htr'] at hgr'
        injection hgr' with hgr'
        injection hgr' with _ hgr' _
        cases hgr'
      have hall : AL.take (n + 1) = AL := by rw [← HN.out, List.take_length]
      refine ⟨⟨.slice (some ⟨g, 0, none⟩) (n + 1) cap, rfl, ?_⟩, ?_, ?_, hx.here⟩
      · rw [HN.out]
        have hr := HROW.out
        refine ⟨hr.1, ?_⟩
        rcases hr.2 with h | ⟨g', cap', cur', hgg, a, hb, c⟩
        · exact .inl h
        · injection hgg with e1 e2 e3
          injection e1 with e1
          injection e1 with e1
          subst e1 e3
          refine .inr ⟨g, cap, cur', rfl, a, ?_, c⟩
          rw [HGH.out] at hb
          rw [hx.block _ hgt, hgr', ← hb]
      · have hW := HWr.out
        rw [hall] at hW
        exact hW.put htr' hx
      · have c1 := HCr.out
        refine ⟨hx.os.trans (c1.os.trans HB2.out.os), hx.tape.trans (c1.tape.trans HB2.out.tape), hx.output.trans (c1.output.trans HB2.out.output), by have := hx.size; have := c1.size; have := HB2.out.size; omega, fun j hj a b c d => ?_⟩
        have := HB2.out.size
        exact (hx.block j d).trans ((c1.block j (by omega) a b c).trans (HB2.out.block j hj))
end
end Go.Proofs.YtpfmmlbakbhklaaGreatDoor
