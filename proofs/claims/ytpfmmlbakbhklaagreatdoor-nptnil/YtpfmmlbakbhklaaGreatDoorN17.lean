/- The iterator below: what it hands on, as long as each round leaves the words, the frames and the tables. Conditions: the words and frames lie in memory. -/
import Derived.Test.YtpfmmlbakbhklaaGreatDoorN16
namespace Go.Proofs.YtpfmmlbakbhklaaGreatDoor
open Go.RowKit Go.Shelf

/-- A slice of a row of words of its own type. -/
def LieR (w : World) (v : Value) (xs : List Int) : Prop :=
  xs.length ≤ 65536 ∧ ∃ q c, v = .slice q xs.length c ∧ (xs ≠ [] → ∃ b, q = some ⟨b, 0, none⟩ ∧ IsRow w b xs)
theorem words_rt {w : World} {p b : Nat} {s : St} (h : Mem 124 w p b s) (a m : Int) (hm : m ≤ 9223372036854775807) :
    Calls Tryz.prog 29 #[.pointer (some ⟨p, 0, none⟩), .int .i64 a, .int .i64 m] w fun e w' => ∃ v, e = .returned v ∧ LieR w' v (wordsV s a m) ∧ Below w.heap.size w w' := by
  cases hA : allB s.xs.length a m
  · refine (words_no h a m hm hA).mono ?_
    rintro e w' ⟨rfl, hw⟩
    rw [hw]
    simp only [wordsV, hA]
    exact ⟨_, rfl, ⟨by simp, none, 0, rfl, fun h => absurd rfl h⟩, Below.refl _ _⟩
  · have ⟨h1, h2, h3⟩ := allB_yes.1 hA
    obtain ⟨i, rfl⟩ := Int.eq_ofNat_of_zero_le h2
    obtain ⟨j, rfl⟩ := Int.eq_ofNat_of_zero_le (show 0 ≤ m by omega)
    have ht := h.top
    refine (words_yes h i j (by omega) (by omega)).mono ?_
    rintro e w' ⟨rfl, hR, hB⟩
    simp only [wordsV, hA]
    have hl : (cut s.xs ((i : Int).toNat) ((j : Int).toNat)).length = j := cut_length (by omega)
    refine ⟨_, rfl, ⟨?_, some ⟨w.heap.size, 0, none⟩, j, ?_, fun _ => ⟨_, rfl, hR⟩⟩, hB⟩
    · rw [if_pos trivial, hl]; omega
    · rw [if_pos trivial, hl]
theorem IsRow.below' {w w' : World} {g : Nat} {xs : List Int} (h : IsRow w g xs) (hb : Below w.heap.size w w') : IsRow w' g xs := (hb.block _ h.lt).trans h
section
variable {u : Si} {w : World} {t : Nat} {st o root : Int} {s : Sm} {k : Nat}
set_option maxHeartbeats 1000000 in
theorem words_row (hT : IsT u w t st o root) (h : Wo u w s k) (fr v : Int) :
    Calls Tryz.prog 88 #[.pointer (some ⟨t, 0, none⟩), .agg #[.int .i64 fr, .int .i64 v]] w fun r w' => ∃ x, r = .returned x ∧ LieR w' x (cutW s.xs (P.at' fr 0 0) 16) ∧ Below w.heap.size w w' := by
  have hB0 : Below w.heap.size w (w.alloc (.cells #[.int .i64 fr, .int .i64 v] 93)).drew := (below_alloc w _).drew
  have c0 : (w.alloc (.cells #[.int .i64 fr, .int .i64 v] 93)).drew.cell? ⟨w.heap.size, 0, none⟩ = some (.int .i64 fr) := cell_new w #[.int .i64 fr, .int .i64 v] 93 0 rfl
  obtain ⟨d, l, hm, -⟩ := h.mem
  obtain ⟨-, c1, -⟩ := (hT.below hB0).cells
  have HB := hid hB0
  have HA := hid (fun w => P.place_at fr 0 0 w)
  have HC := hid (words_rt (s := ⟨s.xs, d, l⟩) (hm.below hB0) (P.at' fr 0 0) 16 (by decide))
  have hS : ∀ w2, Below (w.alloc (.cells #[.int .i64 fr, .int .i64 v] 93)).drew.heap.size (w.alloc (.cells #[.int .i64 fr, .int .i64 v] 93)).drew w2 → w2.cell? ⟨t, 1, none⟩ = some (.pointer (some ⟨u.mp, 0, none⟩)) ∧ w2.cell? ⟨w.heap.size, 0, none⟩ = some (.int .i64 fr) := fun w2 b => ⟨(b.cell (p := ⟨t, 1, none⟩) (hT.below hB0).lt).trans c1, (b.cell (p := ⟨w.heap.size, 0, none⟩) (by simp)).trans c0⟩
  have HS := hid hS
  show Calls Tryz.prog 88 #[.pointer (some ⟨t, 0, none⟩), .agg #[.int .i64 fr, .int .i64 v]] w fun r w' => ∃ x, r = .returned x ∧ LieR w' x (wordsV ⟨s.xs, d, l⟩ (P.at' fr 0 0) 16) ∧ Below w.heap.size w w'
  generalize wordsV ⟨s.xs, d, l⟩ (P.at' fr 0 0) 16 = L at *
  generalize P.at' fr 0 0 = a at *
  clear h hT hm hB0 hS
  go_enter Tryz.func88, Tryz.ntmps88
  go_wp2
  go_region_held3 (fun w' => w'.cell? ⟨t, 1, none⟩ = some (.pointer (some ⟨u.mp, 0, none⟩)) ∧ w'.cell? ⟨w.heap.size, 0, none⟩ = some (.int .i64 fr)) (first | exact ⟨c1, c0⟩ | assumption)
    (first
      | (go_at_call 103; refine (HA.out _).mono ?_; rintro e w' ⟨rfl, hw'⟩; rw [hw']; clear hw' w')
      | (go_at_call 29; refine HC.out.mono ?_; rintro e w2 ⟨x, rfl, hL, hB⟩; have hL2 := hid hL; have hS2 := HS.out _ hB; have hB2 := hid hB; clear hL hB))
  all_goals go_wp2
  all_goals go_ret
  all_goals exact ⟨_, rfl, hL2.out, P.bgo HB.out hB2.out⟩
end

/-- The tables to which words lead. -/
def kd (ws : List Int) (v : Nat) : List (Int × Nat) := (ws.filter fun x => decide (0 < v) && P.tb (P.prD x.toNat)).map fun x => ((P.prD x.toNat).f, v - 1)
theorem kids_kd (xs : List Int) (fr : Int) (v : Nat) : kids xs (fr, v) = kd (cutW xs (P.at' fr 0 0) 16) v := rfl
theorem kd_app (a b : List Int) (v : Nat) : kd (a ++ b) v = kd a v ++ kd b v := by simp [kd]
theorem kd_one (x : Int) (v : Nat) : kd [x] v = if (decide (0 < v) && P.tb (P.prD x.toNat)) = true then [((P.prD x.toNat).f, v - 1)] else [] := by
  unfold kd
  cases h : (decide (0 < v) && P.tb (P.prD x.toNat))
  · simp [List.filter, h]
  · simp [List.filter, h]
theorem take_at {ws : List Int} {i : Nat} (h : i < ws.length) : ws.take (i + 1) = ws.take i ++ [ws.getD i 0] := by
  rw [List.take_add_one, List.getElem?_eq_getElem h]
  simp [List.getD, h]
theorem kd_take {ws : List Int} {i : Nat} (h : i < ws.length) (v : Nat) : kd (ws.take (i + 1)) v = kd (ws.take i) v ++ kd [ws.getD i 0] v := by rw [take_at h, kd_app]
theorem kd_split {ws : List Int} {i : Nat} (h : i < ws.length) (v : Nat) : kd ws v = kd (ws.take i) v ++ (kd [ws.getD i 0] v ++ kd (ws.drop (i + 1)) v) := by
  rw [← List.append_assoc, ← kd_take h, ← kd_app, List.take_append_drop]
theorem cutW_u64 {xs : List Int} (h : U64 xs) (a m : Int) (i : Nat) : ∃ x : Nat, (cutW xs a m).getD i 0 = x ∧ x < 18446744073709551616 := by
  unfold cutW
  split
  · by_cases hj : i < m.toNat
    · have e : (cut xs a.toNat m.toNat).getD i 0 = xs.getD (a.toNat + i) 0 := by
        rw [List.getD_eq_getElem?_getD, cut_get hj, ← List.getD_eq_getElem?_getD]
      rw [e]
      have := h (a.toNat + i)
      exact ⟨(xs.getD (a.toNat + i) 0).toNat, by omega, by omega⟩
    · have : (cut xs a.toNat m.toNat).getD i 0 = 0 := by
        rw [List.getD_eq_getElem?_getD, List.getElem?_eq_none (by simp [cut]; omega)]
        rfl
      exact ⟨0, this, by decide⟩
  · exact ⟨0, rfl, by decide⟩

/-- What below reads. -/
structure BR (u : Si) (t p0 p1 : Nat) (o root fr : Int) (v : Nat) (s : Sm) (A : World) : Prop where
  b0 : A.heap[p0]? = some (.cells #[.pointer (some ⟨t, 0, none⟩)] 30 (0, 0))
  b1 : A.heap[p1]? = some (.cells #[.int .i64 fr, .int .i64 v] 93 (0, 0))
  tb : IsT u A t 1 o root
  wo : ∃ k, Wo u A s k
/-- What a round keeps: all but slices of tables, and tables' rows; but the table itself. -/
def RkG (p1 : Nat) (A B : World) : Prop := ∀ (k : Nat) (c : Array Value) (T : TypeId), A.heap[k]? = some (.cells c T (0, 0)) → T ≠ 105 → (T = 93 → k = p1) → B.heap[k]? = some (.cells c T (0, 0))
theorem RkG.trans {p1 : Nat} (A B C : World) (h : RkG p1 A B) (k : RkG p1 B C) : RkG p1 A C := fun i c T a b d => k i c T (h i c T a b d) b d
theorem RkG.of_below {p1 : Nat} {A B : World} (h : Below A.heap.size A B) : RkG p1 A B := fun k _ _ ho _ _ => (h.block k (Array.getElem?_eq_some_iff.1 ho).1).trans ho
theorem RkG.tw {p1 : Nat} (A B : World) (l : Nat) (o : Obj) (h : Tw l A B) (hl : A.heap[l]? = some o) (ho : o.isCells = false) : RkG p1 A B := fun _ _ _ hk _ _ => h.cells hl ho hk
def OkK (s : Sm) (fr : Int) (v : Nat) (z : List (Int × Nat)) (x : Int × Nat) : Prop := ∃ r, kids s.xs (fr, v) = z ++ x :: r
attribute [local go_sem] Oper.semAt_some
set_option maxRecDepth 100000 in
set_option maxHeartbeats 4000000 in
theorem below_in (n : Nat) (hn : 1 ≤ n) (u : Si) (t p0 p1 : Nat) (o root fr : Int) (v : Nat) (hv : v ≤ 3) (s : Sm) (I : List (Int × Nat) → World → Prop)
    (hI : ∀ z A, I z A → BR u t p0 p1 o root fr v s A)
    (l : Nat) (J : List (Int × Nat) → World → Prop) (W : World) (hJ : ∀ z A B, J z A → Below A.heap.size A B → J z B) (hJI : ∀ z A, J z A → I z A)
    (hY : ∀ z x A, J z A → OkK s fr v z x → YieldAt Fence.wide (n - 1) Tryz.prog l #[.agg #[.int .i64 x.1, .int .i64 (x.2 : Nat)]] A fun e B => e = .returned (.bool true) ∧ J (z ++ [x]) B ∧ RkG p1 A B)
    (h0 : J [] W) :
    CallsIn Fence.wide n Tryz.prog 87 #[.func (.yield l) #[] #[], .pointer (some ⟨p0, 0, none⟩), .pointer (some ⟨p1, 0, none⟩)] W fun e B => (∃ v, e = .returned v) ∧ ∃ z, z = kids s.xs (fr, v) ∧ J z B := by
  have HY := hid hY
  have HJ := hid hJ
  have HJI := hid hJI
  have HI := hid hI
  have HV := hid hv
  have HJ0 := hid h0
  have HR0 := hid (hI _ _ (hJI _ _ h0))
  obtain ⟨k0, hw0⟩ := HR0.out.wo
  have HWD := hid (words_row HR0.out.tb hw0 fr v)
  have q0 := P.cell_of (i := 0) HR0.out.b0 rfl
  have q1 := P.cell_of (i := 0) HR0.out.b1 rfl
  have q2 := P.cell_of (i := 1) HR0.out.b1 rfl
  have hU := fun i => cutW_u64 hw0.u64 (P.at' fr 0 0) 16 i
  have HK := hid (kids_kd s.xs fr v)
  generalize hws : cutW s.xs (P.at' fr 0 0) 16 = ws at *
  have HU := hid hU
  clear hY hJ hJI hI h0 hw0 hv hws hU
  refine callsIn_of_wp Tryz.func87 rfl trivial ?_ rfl
  simp only [Tryz.ntmps87, List.size_toArray, List.length_cons, List.length_nil, Nat.reduceAdd, Nat.reduceSub, Array.replicate_succ, Array.replicate_zero, List.push_toArray, List.append_toArray, List.nil_append, List.cons_append]
  gi_wp2_with fail
  refine ⟨trivial, (callsIn_wide.2 HWD.out).mono ?_⟩
  rintro e w1 ⟨X, rfl, ⟨hle, q, c, rfl, hq⟩, hB1⟩
  have HJ1 := hid (HJ.out _ _ _ HJ0.out hB1)
  have HQ := hid hq
  have HLE := hid hle
  clear hB1 q0 q1 q2 hq hle
  gi_wp2
  gi_loopw [14] (fun p wr => ∃ i : Nat, p = .int .i64 i ∧ i ≤ ws.length ∧ J (kd (ws.take i) v) wr ∧ (ws ≠ [] → ∃ b, q = some ⟨b, 0, none⟩ ∧ IsRow wr b ws)) (fun p _ => ws.length - (intOf p).toNat)
  case atStart => exact ⟨0, rfl, Nat.zero_le _, HJ1.out, HQ.out⟩
  case round =>
    obtain ⟨i, rfl, hi, hJr, hqr⟩ := hrel
    have HJr := hid hJr
    have HQr := hid hqr
    clear hJr hqr
    by_cases hlt : i < ws.length
    · have hlt' : (i : Int) < ws.length := by omega
      obtain ⟨b, rfl, hrow⟩ := HQr.out (by intro e; subst e; simp at hlt)
      have c0 := hrow.cell i hlt
      obtain ⟨x, hx, hx2⟩ := HU.out i
      have HT := hid (kd_take hlt v)
      have HS := hid (kd_split hlt v)
      rw [hx] at c0 HT HS
      have HPA := hid (P.parse_at x hx2 wr)
      have HB := hid hrow
      have HR := hid (HI.out _ _ (HJI.out _ _ HJr.out))
      have HO1 := hid (kd_one (x : Int) v)
      rw [Int.toNat_natCast] at HO1
      obtain ⟨nf, nv, nb, hNX, hnb, hnf, -⟩ := next_some fr v (P.prD x) HV.out
      rw [nxB_nat] at hnb
      have HNX := hid hNX
      rw [← hnb] at HO1
      have HO2 : Hid (kd [(x : Int)] v = if nb = true then [(nf, nv)] else []) := by
        rw [HO1.out]
        show (if _ then _ else _) = (if _ then _ else _)
        cases hb : nb
        · rfl
        · obtain ⟨f1, f2⟩ := hnf hb
          rw [f1, f2]
      generalize P.prY x = py at HPA
      generalize P.prD x = e at *
      obtain ⟨ep, er, el, ef⟩ := e
      unfold P.ptwo P.eV at HPA
      unfold P.eV at HNX
      simp only at HPA HNX
      have hwr : wrap64 ((i : Int) + 1) = ((i + 1 : Nat) : Int) := by have := HLE.out; unfold wrap64; omega
      clear hx hx2 hrow HO1 hnb hnf hNX HQr
      gi_wp2_with fail
      refine ⟨trivial, (callsIn_wide.2 HPA.out).mono ?_⟩
      rintro e w2 ⟨rfl, hB2⟩
      have hB2a := hB2.alloc hB2.size (.cells #[.bool ep, .int .i64 er, .bool el, .int .i64 ef] 95)
      have HB2 := hid hB2a
      have q0 := P.cell_of (i := 0) (P.stay hB2a HR.out.b1) rfl
      have q1 := P.cell_of (i := 1) (P.stay hB2a HR.out.b1) rfl
      clear hB2 hB2a c0
      gi_wp2_with fail
      refine ⟨trivial, (callsIn_wide.2 (HNX.out _)).mono ?_⟩
      rintro e w3 ⟨rfl, hB3⟩
      have hB3a := (P.bgo HB2.out hB3).alloc (P.bgo HB2.out hB3).size (.cells #[.int .i64 nf, .int .i64 nv] 93)
      have HJ3 := hid (HJ.out _ _ _ HJr.out hB3a)
      have HB3 := hid (HB.out.below' hB3a)
      have HN := hid (heap_alloc_new w3 (.cells #[.int .i64 nf, .int .i64 nv] 93))
      have c0 := P.cell_of (i := 0) HN.out rfl
      have c1 := P.cell_of (i := 1) HN.out rfl
      clear hB3 hB3a q0 q1 HB2 HPA HNX
      cases nb
      · have HE := hid (show kd [(x : Int)] v = [] from HO2.out)
        gi_wp2
        refine ⟨fun f h => (by cases h), ?_⟩
        gi_wp2
        all_goals
          refine ⟨⟨i + 1, by rw [hwr], by omega, ?_, fun _ => ⟨b, rfl, HB3.out⟩⟩, by rw [hwr]; simp [intOf]; omega⟩
          rw [HT.out, HE.out, List.append_nil]
          exact HJ3.out
      · have HE := hid (show kd [(x : Int)] v = [(nf, nv)] from HO2.out)
        have HY1 := hid (HY.out (kd (ws.take i) v) (nf, nv) _ HJ3.out ⟨kd (ws.drop (i + 1)) v, by rw [HK.out, HS.out, HE.out]; rfl⟩)
        simp only at HY1
        obtain ⟨fn, tmps, assign, body, hy, hR⟩ := HY1.out
        gi_wp2
        refine hR.mono ?_
        rintro e W3 ⟨rfl, hJ3, hK3⟩
        have HJ4 := hid hJ3
        have HB4 := hid (show IsRow W3 b ws from hK3 _ _ _ HB3.out (by decide) (fun e => absurd e (by decide)))
        clear hJ3 hK3 hy HY1
        gi_wp2
        refine ⟨⟨i + 1, by rw [hwr], by omega, ?_, fun _ => ⟨b, rfl, HB4.out⟩⟩, by rw [hwr]; simp [intOf]; omega⟩
        rw [HT.out, HE.out]
        exact HJ4.out
    · have hlt' : ¬ (i : Int) < ws.length := by omega
      have he : i = ws.length := by omega
      subst he
      gi_wp2
      go_end0
      rw [HK.out]
      have := HJr.out
      rw [List.take_length] at this
      exact ⟨⟨_, rfl⟩, this⟩
end Go.Proofs.YtpfmmlbakbhklaaGreatDoor
