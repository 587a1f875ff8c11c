/- The walk of FieldPacks: it returns true for every four words and every four bytes; nothing that lay before is changed. -/
import Derived.Test.YthhilppeeffheaaDoorW4
import Derived.Test.YthhilppeeffheaaDoorMath3
namespace Go.Proofs.YthhilppeeffheaaDoor
open Go.RowKit

theorem rows_apart {w : World} {base base' : Nat} {e e' : TypeId} {size size' : Nat} {v v' : Value} {n n' : Nat} {xs xs' : List Value} (h : w.ownsRow base e size v n xs) (h' : w.ownsRow base' e' size' v' n' xs') (hne : e ≠ e') : v'.ownBlock = none ∨ v'.ownBlock ≠ v.ownBlock := by
  obtain ⟨_, ⟨rfl, _⟩ | ⟨g', cap', cur', rfl, _, hh', _⟩⟩ := h'
  · exact .inl rfl
  · refine .inr fun hb => ?_
    obtain ⟨_, ⟨rfl, _⟩ | ⟨g, cap, cur, rfl, _, hh, _⟩⟩ := h
    · cases hb
    · have : g' = g := by simpa [Value.ownBlock] using hb
      subst this
      rw [hh] at hh'
      simp only [Option.some.injEq, Obj.cells.injEq] at hh'
      exact hne hh'.2.1

theorem info48 : (Tryd.prog.info? 48).map (fun i => (i.zero, i.size, i.bytes)) = some (some (.agg #[.int .u64 0, .int .i64 0]), 2, 16) := by kernel_rfl

/-- parts, cell by cell -/
def pcells : List (Nat × Nat) → List Value
  | [] => []
  | p :: r => .int .u64 (p.1 : Nat) :: .int .i64 (p.2 : Nat) :: pcells r
theorem pcells_snoc (l : List (Nat × Nat)) (p : Nat × Nat) : pcells (l ++ [p]) = pcells l ++ [.int .u64 (p.1 : Nat), .int .i64 (p.2 : Nat)] := by
  induction l with
  | nil => rfl
  | cons q r ih => simp [pcells, ih]
theorem pcells_at : ∀ (l : List (Nat × Nat)) (i : Nat), i < l.length → (pcells l)[i * 2]? = some (.int .u64 ((l[i]?.getD (0, 0)).1 : Nat)) ∧ (pcells l)[i * 2 + 1]? = some (.int .i64 ((l[i]?.getD (0, 0)).2 : Nat))
  | [], i, h => by simp at h
  | p :: r, 0, _ => ⟨rfl, rfl⟩
  | p :: r, i + 1, h => by
    have ih := pcells_at r i (by simpa using h)
    have e1 : (i + 1) * 2 = i * 2 + 2 := by omega
    rw [e1]
    exact ⟨by simpa [pcells] using ih.1, by simpa [pcells] using ih.2⟩
theorem addr_add (g j : Nat) : ((⟨g, 0, none⟩ : Addr).add j) = ⟨g, j, none⟩ := by by_cases h : j = 0 <;> simp [Addr.add, h]

theorem prow_of_owns {w : World} {base : Nat} {v : Value} {l : List (Nat × Nat)} {n : Nat} (hl : l.length = n) (hn : 0 < n) (h : w.ownsRow base 48 2 v n (pcells l)) :
    ∃ g cap, v = .slice (some ⟨g, 0, none⟩) n cap ∧ PRow w g 0 n (l.map fun p => ((p.1 : Int), (p.2 : Int))) := by
  have hcs : ∀ {g : Nat}, v.ownBlock = some g → _ := fun {g} hg => h.cells (g := g) hg
  have hlt := h.lt
  obtain ⟨_, ⟨_, h0⟩ | ⟨g, cap, cur, rfl, _, _⟩⟩ := h
  · omega
  · refine ⟨g, cap, rfl, by simpa using hl, (hlt g rfl).2, fun i hi => ?_⟩
    have hi' : i < l.length := by omega
    obtain ⟨a, b⟩ := pcells_at l i hi'
    have ca := hcs rfl _ _ a
    have cb := hcs rfl _ _ b
    rw [addr_add] at ca cb
    simp only [Nat.zero_add]
    constructor
    · rw [ca]; simp [hi']
    · rw [cb]; simp [hi']

/-! what is packed is split again -/
def okParts (lo : Nat) : List (Nat × Nat) → Prop
  | [] => lo ≤ 64
  | p :: r => 1 ≤ p.2 ∧ okParts (lo + p.2) r
theorem okParts_le : ∀ (l : List (Nat × Nat)) (lo : Nat), okParts lo l → lo ≤ 64
  | [], _, h => h
  | p :: r, lo, h => by have := okParts_le r _ h.2; omega
def ip (l : List (Nat × Nat)) : List (Int × Int) := l.map fun p => ((p.1 : Int), (p.2 : Int))
theorem isF_nat (lo s : Nat) (h1 : 1 ≤ s) (h2 : lo + s ≤ 64) : isF (lo : Int) (s : Int) = true := by rw [isF_iff]; omega
theorem packTo_cons (y lo : Nat) (p : Nat × Nat) (r : List (Nat × Nat)) (h : okParts lo (p :: r)) : packTo y lo (ip (p :: r)) = packTo (M.pt y lo p.2 p.1) ((lo + p.2 : Nat) : Int) (ip r) := by
  have h2 := okParts_le r _ h.2
  have hf := isF_nat lo p.2 h.1 h2
  show packTo y lo (((p.1 : Int), (p.2 : Int)) :: ip r) = _
  rw [packTo_yes _ _ _ _ hf]
  simp [fPut, hf]
theorem gt_pt_below (y lo n v l s : Nat) (h : l + s ≤ lo) : M.gt (M.pt y lo n v) l s = M.gt y l s := by
  apply Nat.eq_of_testBit_eq
  intro i
  rw [M.tb_gt, M.tb_gt, M.tb_pt]
  by_cases hi : i < s
  · rw [if_neg (by omega)]
  · simp [hi]
theorem gt_pack_below : ∀ (l : List (Nat × Nat)) (y lo a s : Nat), okParts lo l → a + s ≤ lo → M.gt (packTo y lo (ip l)) a s = M.gt y a s
  | [], y, lo, a, s, _, _ => rfl
  | p :: r, y, lo, a, s, h, hs => by
    rw [packTo_cons y lo p r h, gt_pack_below r _ _ a s h.2 (by omega), gt_pt_below _ _ _ _ _ _ hs]
theorem split_pack : ∀ (l : List (Nat × Nat)) (y lo : Nat), okParts lo l → splitTo (packTo y lo (ip l)) lo (l.map fun p => (p.2 : Int)) = some (l.map fun p => p.1 % 2 ^ p.2)
  | [], y, lo, _ => rfl
  | p :: r, y, lo, h => by
    have h2 := okParts_le r _ h.2
    have hf := isF_nat lo p.2 h.1 h2
    have ih := split_pack r (M.pt y lo p.2 p.1) (lo + p.2) h.2
    rw [List.map_cons, splitTo_yes _ _ _ _ hf, packTo_cons y lo p r h, show ((lo : Int) + (p.2 : Int)) = ((lo + p.2 : Nat) : Int) by simp, ih]
    have hg : fGet (packTo (M.pt y lo p.2 p.1) ((lo + p.2 : Nat) : Int) (ip r)) lo p.2 = p.1 % 2 ^ p.2 := by
      simp only [fGet, hf, if_true, Int.toNat_natCast]
      rw [gt_pack_below r _ _ _ _ h.2 (Nat.le_refl _), M.gt_pt]
    rw [Option.map_some, hg, List.map_cons]
theorem pack_lt : ∀ (l : List (Nat × Nat)) (y lo : Nat), okParts lo l → y < 18446744073709551616 → packTo y lo (ip l) < 18446744073709551616
  | [], y, lo, _, hy => hy
  | p :: r, y, lo, h, hy => by
    rw [packTo_cons y lo p r h]
    exact pack_lt r _ _ h.2 (M.pt_lt _ _ _ _ hy (okParts_le r _ h.2))

def prt (vs : List Nat) (ss : List Int) (i : Nat) : Nat × Nat := (vs[i]?.getD 0, 1 + (ss[i]?.getD 0 % 16).toNat)
def prts (vs : List Nat) (ss : List Int) (k : Nat) : List (Nat × Nat) := (List.range k).map (prt vs ss)
theorem prts_succ (vs : List Nat) (ss : List Int) (k : Nat) : prts vs ss (k + 1) = prts vs ss k ++ [prt vs ss k] := by
  simp [prts, List.range_succ]

theorem prts_ok (vs : List Nat) (ss : List Int) : okParts 0 (prts vs ss 4) := by
  have h : ∀ x : Int, (x % 16).toNat ≤ 15 := fun x => by omega
  have h0 := h (ss[0]?.getD 0)
  have h1 := h (ss[1]?.getD 0)
  have h2 := h (ss[2]?.getD 0)
  have h3 := h (ss[3]?.getD 0)
  show 1 ≤ 1 + (ss[0]?.getD 0 % 16).toNat ∧ 1 ≤ 1 + (ss[1]?.getD 0 % 16).toNat ∧ 1 ≤ 1 + (ss[2]?.getD 0 % 16).toNat ∧ 1 ≤ 1 + (ss[3]?.getD 0 % 16).toNat ∧ 0 + (1 + (ss[0]?.getD 0 % 16).toNat) + (1 + (ss[1]?.getD 0 % 16).toNat) + (1 + (ss[2]?.getD 0 % 16).toNat) + (1 + (ss[3]?.getD 0 % 16).toNat) ≤ 64
  omega
theorem prts_len (vs : List Nat) (ss : List Int) (k : Nat) : (prts vs ss k).length = k := by simp [prts]
theorem prts_at (vs : List Nat) (ss : List Int) (k : Nat) (h : k < 4) : (prts vs ss 4)[k]? = some (prt vs ss k) := by simp [prts, h]

theorem pack4 (pl : List (Nat × Nat)) (g cap : Nat) (w : World) (hP : PRow w g 0 4 (pl.map fun p => ((p.1 : Int), (p.2 : Int)))) :
    Calls Tryd.prog 24 #[.slice (some ⟨g, 0, none⟩) 4 cap] w fun e w' => e = .returned (.int .u64 (packTo 0 0 (ip pl) : Nat)) ∧ Below w.heap.size w w' :=
  pack_some g 0 cap 4 (ip pl) (by intro p hp; simp [ip] at hp; obtain ⟨a, b, _, rfl⟩ := hp; simp) w (by unfold maxLen; decide) hP

theorem and_mask (v n : Nat) (hv : v < 18446744073709551616) (hn : n ≤ 16) :
    (((v % 2 ^ n : Nat) : Int) != bits BinOp.and IntKind.u64 (v : Int) (IntKind.u64.wrap (IntKind.u64.wrap (2 ^ n) - 1))) = false := by
  have h1 : 2 ^ n ≤ 2 ^ 16 := Nat.pow_le_pow_right (by decide) hn
  have h2 : 0 < 2 ^ n := Nat.two_pow_pos n
  have e0 : (2 : Int) ^ n = ((2 ^ n : Nat) : Int) := by simp
  have e1 : IntKind.u64.wrap (IntKind.u64.wrap (2 ^ n) - 1) = ((2 ^ n - 1 : Nat) : Int) := by
    rw [IntKind.wrap_u64, IntKind.wrap_u64, e0]; omega
  rw [e1, u64_and_nat v _ hv (by omega), Nat.and_two_pow_sub_one_eq_mod]
  simp

set_option maxRecDepth 100000 in
set_option maxHeartbeats 1000000 in
theorem packs_walk (vs : List Nat) (ss : List Int) (w : World) (v0 v1 v2 v3 : Nat) (s0 s1 s2 s3 : Int) (hvs : vs = [v0, v1, v2, v3]) (hss : ss = [s0, s1, s2, s3]) (hv : ∀ v ∈ vs, v < 18446744073709551616) (hs : ∀ s ∈ ss, 0 ≤ s ∧ s ≤ 255) (hT : Tab w) (hw : 0 < w.heap.size) :
    Calls Tryd.prog 6 #[.agg #[.int .u64 v0, .int .u64 v1, .int .u64 v2, .int .u64 v3], .agg #[.int .u8 s0, .int .u8 s1, .int .u8 s2, .int .u8 s3]] w fun e w' => e = .returned (.bool true) ∧ Below w.heap.size w w' := by
  obtain ⟨i0, hi, hz0, hz1, hz2⟩ := info_parts info48
  obtain ⟨j0, ji, jz0, jz1, jz2⟩ := info_parts info3
  have HVS : Hid (vs = [v0, v1, v2, v3]) := hvs
  have HSS : Hid (ss = [s0, s1, s2, s3]) := hss
  clear hvs hss
  go_enter Tryd.func6, Tryd.ntmps6
  go_wp2
  obtain ⟨W0, hW0⟩ : ∃ W0, ((w.alloc (.cells #[.int .u64 v0, .int .u64 v1, .int .u64 v2, .int .u64 v3] 45)).alloc (.cells #[.int .u8 s0, .int .u8 s1, .int .u8 s2, .int .u8 s3] 46)) = W0 := ⟨_, rfl⟩
  have cV : ∀ k, k < 4 → W0.cell? ⟨w.heap.size, k, none⟩ = some (.int .u64 (vs[k]?.getD 0 : Nat)) := fun k hk => by
    rw [← hW0, HVS.out, World.cell?_alloc_past _ _ _ (by simp), World.cell?_alloc_at _ _ _ _ rfl]
    match k, hk with
    | 0, _ => rfl
    | 1, _ => rfl
    | 2, _ => rfl
    | 3, _ => rfl
  have cS : ∀ k, k < 4 → W0.cell? ⟨w.heap.size + 1, k, none⟩ = some (.int .u8 (ss[k]?.getD 0)) := fun k hk => by
    rw [← hW0, HSS.out, World.cell?_alloc_at _ _ _ _ (by simp)]
    match k, hk with
    | 0, _ => rfl
    | 1, _ => rfl
    | 2, _ => rfl
    | 3, _ => rfl
  have hZ0 : W0.heap.size = w.heap.size + 2 := by rw [← hW0]; simp
  have hB0 : Below w.heap.size w W0 := by rw [← hW0]; exact ((Below.refl _ _).alloc (Nat.le_refl _) _).alloc (by simp) _
  rw [hW0]
  clear hW0
  go_loopw [5, 6, 7] (fun l sz i wr => ∃ k : Nat, k ≤ 4 ∧ i = .int .i64 k ∧ wr.ownsRow (w.heap.size + 2) 48 2 l k (pcells (prts vs ss k)) ∧ wr.ownsRow (w.heap.size + 2) 3 1 sz k (ints ((prts vs ss k).map (·.2))) ∧ Below (w.heap.size + 2) W0 wr) (fun _ _ i _ => 4 - (intOf i).toNat)
  case atStart => exact ⟨0, by decide, rfl, World.ownsRow_nil _ _ _ _, World.ownsRow_nil _ _ _ _, Below.refl _ _⟩
  case round =>
    obtain ⟨k, hk, rfl, hl, hsz, hB⟩ := hrel
    have hBs : w.heap.size + 2 ≤ wr.heap.size := by have := hB.size; omega
    by_cases hlt : k < 4
    · have c1 : wr.cell? ⟨w.heap.size + 1, k, none⟩ = some (.int .u8 (ss[k]?.getD 0)) := (hB.cell (p := ⟨w.heap.size + 1, k, none⟩) (by show w.heap.size + 1 < w.heap.size + 2; omega)).trans (cS k hlt)
      have c2 : wr.cell? ⟨w.heap.size, k, none⟩ = some (.int .u64 (vs[k]?.getD 0 : Nat)) := (hB.cell (p := ⟨w.heap.size, k, none⟩) (by show w.heap.size < w.heap.size + 2; omega)).trans (cV k hlt)
      have HPS : Hid (prts vs ss (k + 1) = prts vs ss k ++ [(vs[k]?.getD 0, 1 + (ss[k]?.getD 0 % 16).toNat)]) := prts_succ vs ss k
      have hsb : 0 ≤ ss[k]?.getD 0 ∧ ss[k]?.getD 0 ≤ 255 := by
        have hkl : k < ss.length := by rw [HSS.out]; exact hlt
        rw [List.getElem?_eq_getElem hkl, Option.getD_some]
        exact hs _ (List.getElem_mem hkl)
      generalize ss[k]?.getD 0 = sk at c1 HPS hsb
      generalize vs[k]?.getD 0 = vk at c2 HPS
      obtain ⟨hs0, hs1⟩ := hsb
      go_wp2_with (at_builtin; refine wpList_append_own _ rfl _ _ 33 rfl (w.heap.size + 2) 48 i0 (.agg #[.int .u64 0, .int .i64 0]) 2 16 Tryd.underlying33 hi hz0 hz1 hz2 rfl (by decide) _ _ _ rfl (hl.alloc _) ⟨wr.heap.size, 0, none⟩ 1 1 [.int .u64 (vk : Nat), .int .i64 (1 + sk % 16)] rfl rfl ?c1 ?c2 ?c3 ?c4 ?c5 ?_)
      case c1 => exact cell_two_new _ _ _ _
      case c2 => simp [Value.oneCell']
      case c3 => unfold maxLen; omega
      case c4 => omega
      case c5 => simp; omega
      intro l' w1 hl' hg1 _
      have hsz1 := (hsz.alloc (.cells #[.int .u64 (vk : Nat), .int .i64 (1 + sk % 16)] 48)).kept hg1 (rows_apart hl hsz (by decide))
      have hB1 : Below (w.heap.size + 2) W0 w1 := (hB.alloc hBs _).grown hg1 (by simp; omega) (fun k e => (hl.lt k e).1)
      clear hg1 hl hsz hB hBs c1 c2
      have hBs : w.heap.size + 2 ≤ w1.heap.size := by have := hB1.size; omega
      go_wp2_with (at_builtin; refine wpList_append_own _ rfl _ _ 24 rfl (w.heap.size + 2) 3 j0 (.int .i64 0) 1 8 Tryd.underlying24 ji jz0 jz1 jz2 rfl (by decide) _ _ _ rfl (hsz1.alloc _) ⟨w1.heap.size, 0, none⟩ 1 1 [.int .i64 (1 + sk % 16)] rfl rfl ?c1 ?c2 ?c3 ?c4 ?c5 ?_)
      case c1 => exact cell_one_new _ _ _
      case c2 => simp [Value.oneCell']
      case c3 => unfold maxLen; omega
      case c4 => omega
      case c5 => simp; omega
      intro sz' w2 hsz2 hg2 _
      have hl2 := (hl'.alloc (.cells #[.int .i64 (1 + sk % 16)] 3)).kept hg2 (rows_apart hsz1 hl' (by decide))
      have hB2 : Below (w.heap.size + 2) W0 w2 := (hB1.alloc hBs _).grown hg2 (by simp; omega) (fun k e => (hsz1.lt k e).1)
      clear hg2 hl' hsz1 hB1 hBs
      have hn : (1 + sk % 16 : Int) = ((1 + (sk % 16).toNat : Nat) : Int) := by omega
      rw [hn] at hl2 hsz2
      clear hn
      go_wp2
      refine ⟨⟨k + 1, by omega, by go_num, ?_, ?_, hB2⟩, by simp [intOf]; omega⟩
      · rw [HPS.out, pcells_snoc]; exact hl2
      · rw [HPS.out]; simpa [ints] using hsz2
    · have hk4 : k = 4 := by omega
      subst hk4
      have hpl := prts_len vs ss 4
      have hok := prts_ok vs ss
      obtain ⟨g, cap, rfl, hP⟩ := prow_of_owns (l := prts vs ss 4) (n := 4) hpl (by decide) hl
      have hR := Row.of_owns (k := .i64) (xs := (prts vs ss 4).map (·.2)) (by rw [List.length_map, hpl]; simpa [ints] using hsz) (by unfold maxLen; simp [prts])
      rw [List.map_map] at hR
      have hB' : Below w.heap.size w wr := hB0.trans (hB.mono (by omega))
      have hcV : ∀ k, k < 4 → wr.cell? ⟨w.heap.size, k, none⟩ = some (.int .u64 (vs[k]?.getD 0 : Nat)) := fun k hk => (hB.cell (p := ⟨w.heap.size, k, none⟩) (by show w.heap.size < w.heap.size + 2; omega)).trans (cV k hk)
      clear hl cS cV hB hB0 hsz
      obtain ⟨b2, off2, cap2, hu6, hb2, hc2⟩ := hR.some' (by intro h; have := congrArg List.length h; simp [hpl] at this)
      rw [List.length_map, hpl] at hu6 hc2
      subst hu6
      have HSP : Hid (splitTo (packTo 0 0 (ip (prts vs ss 4))) 0 ((prts vs ss 4).map fun p => (p.2 : Int)) = some ((prts vs ss 4).map fun p => p.1 % 2 ^ p.2)) := split_pack (prts vs ss 4) 0 0 hok
      have HLT : Hid (packTo 0 0 (ip (prts vs ss 4)) < 18446744073709551616) := pack_lt (prts vs ss 4) 0 0 hok (by decide)
      have hat : ∀ k, k < 4 → (prts vs ss 4)[k]? = some (prt vs ss k) := prts_at vs ss
      have HAT : Hid (∀ k, k < 4 → (prts vs ss 4)[k]? = some (prt vs ss k)) := hat
      have HPL : Hid ((prts vs ss 4).length = 4) := hpl
      clear hat hpl hok
      generalize prts vs ss 4 = pl at *
      go_wp2_with fail
      refine (pack4 pl g cap wr hP).mono ?_
      rintro e w3 ⟨rfl, hb3⟩
      generalize packTo 0 0 (ip pl) = pk at *
      have hR3 := hR.below hb3
      go_wp2_with fail
      refine (split_any pk (by omega) (by have := HLT.out; omega) _ _ _ hR3).mono ?_
      rintro e w4 ⟨u, rfl, hu, hb4⟩
      rw [Int.toNat_natCast, show (List.map ((fun x : Nat => (x : Int)) ∘ fun x : Nat × Nat => x.2) pl) = pl.map (fun p => (p.2 : Int)) from rfl, HSP.out, Option.getD_some] at hu
      have hRu := Row.of_owns (k := .u64) hu (by unfold maxLen; rw [List.length_map, HPL.out]; decide)
      obtain ⟨b4, off4, cap4, hu4, hbb4, hc4⟩ := hRu.some' (by intro h; have := congrArg List.length h; simp [HPL.out] at this)
      rw [List.length_map, List.length_map, HPL.out] at hu4 hc4
      subst hu4
      have hbw : Below wr.heap.size wr w4 := hb3.trans (hb4.mono hb3.size)
      have hcV4 : ∀ k, k < 4 → w4.cell? ⟨w.heap.size, k, none⟩ = some (.int .u64 (vs[k]?.getD 0 : Nat)) := fun k hk => (hbw.cell (p := ⟨w.heap.size, k, none⟩) (by show w.heap.size < wr.heap.size; omega)).trans (hcV k hk)
      have hc24 : ∀ k, k < 4 → w4.cell? ⟨b2, off2 + k, none⟩ = _ := fun k hk => (hbw.cell (p := ⟨b2, off2 + k, none⟩) hb2).trans (hc2 k hk)
      have hBw4 : Below w.heap.size w w4 := hB'.trans (hbw.mono (by omega))
      clear hu hRu hR3 hR hP hc2 hcV hb3 hb4 hbw hB'
      have hpb : ∀ k, 1 ≤ (prt vs ss k).2 ∧ (prt vs ss k).2 ≤ 16 := fun k => by unfold prt; simp only; omega
      have h1k : ∀ k, (prt vs ss k).1 = vs[k]?.getD 0 := fun k => rfl
      have hO : ∀ k, k < 4 → ∃ v n : Nat, 1 ≤ n ∧ n ≤ 16 ∧ v < 18446744073709551616 ∧ w4.cell? ⟨b4, off4 + k, none⟩ = some (.int .u64 (v % 2 ^ n : Nat)) ∧ w4.cell? ⟨w.heap.size, k, none⟩ = some (.int .u64 (v : Nat)) ∧ w4.cell? ⟨b2, off2 + k, none⟩ = some (.int .i64 (n : Nat)) := fun k hk => by
        have a := HAT.out k hk
        refine ⟨(prt vs ss k).1, (prt vs ss k).2, (hpb k).1, (hpb k).2, ?_, ?_, ?_, ?_⟩
        · rw [h1k]
          have hkl : k < vs.length := by rw [HVS.out]; exact hk
          rw [List.getElem?_eq_getElem hkl, Option.getD_some]
          exact hv _ (List.getElem_mem hkl)
        · rw [hc4 k hk]; simp [a]
        · rw [hcV4 k hk, h1k]
        · rw [hc24 k hk]; simp [a]
      clear hpb h1k hcV4 hc24 hc4
      go_wp2
      go_loopw [10] (fun i wr' => (∃ k : Nat, k ≤ 4 ∧ i = .int .i64 k) ∧ ∃ m, wr' = w4.drewN m) (fun i _ => 4 - (intOf i).toNat)
      case atStart => exact ⟨⟨0, by decide, rfl⟩, 0, rfl⟩
      case round =>
        obtain ⟨⟨k, hk4, rfl⟩, m, rfl⟩ := hrel
        by_cases hlt4 : k < 4
        · obtain ⟨v, n, hn1, hn2, hvl, e1, e2, e3⟩ := hO k hlt4
          have HVL : Hid (v < 18446744073709551616) := hvl
          clear hvl hO
          obtain ⟨q, hq⟩ : ∃ q, v % 2 ^ n = q := ⟨_, rfl⟩
          have hne := and_mask v n HVL.out hn2
          rw [hq] at e1 hne
          clear hq
          go_wp2
          go_quiet (fail)
          go_wp2
          exact ⟨⟨⟨k + 1, by omega, by go_num⟩, _, rfl⟩, by simp [intOf]; omega⟩
        · go_wp2_with fail
          refine (known_any _ ?_ ?_).mono ?_
          · exact hT.below (below_drewN hBw4 m) hw
          · exact Nat.lt_of_lt_of_le hw hBw4.size
          rintro e w5 ⟨rfl, hb5⟩
          replace hb5 := (below_drewN hBw4 m).trans (hb5.mono hBw4.size)
          go_wp2
          go_ret
          exact ⟨rfl, hb5⟩
end Go.Proofs.YthhilppeeffheaaDoor
