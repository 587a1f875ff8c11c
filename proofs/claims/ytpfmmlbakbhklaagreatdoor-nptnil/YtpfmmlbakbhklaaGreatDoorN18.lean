/- What gather returns: a table, and all that lie below it. Conditions: the words and frames lie in memory; the tables are live. -/
import Derived.Test.YtpfmmlbakbhklaaGreatDoorN17
import Derived.Test.YtpfmmlbakbhklaaGreatDoorZ2
import Derived.Maps.OwnIn
namespace Go.Proofs.YtpfmmlbakbhklaaGreatDoor
open Go.RowKit Go.Shelf
attribute [local go_sem] Oper.semAt_some

set_option maxHeartbeats 1000000 in
theorem below_fn (n : Nat) (t : Nat) (fr : Int) (v : Nat) (w : World) :
    CallsIn Fence.wide n Tryz.prog 52 #[.pointer (some ⟨t, 0, none⟩), .agg #[.int .i64 fr, .int .i64 v]] w fun e w' =>
      e = .returned (.func (.func 87) #[] #[.pointer (some ⟨w.heap.size, 0, none⟩), .pointer (some ⟨w.heap.size + 1, 0, none⟩)]) ∧
      w' = (w.alloc (.cells #[.pointer (some ⟨t, 0, none⟩)] 30)).alloc (.cells #[.int .i64 fr, .int .i64 v] 93) := by
  refine callsIn_of_wp Tryz.func52 rfl trivial ?_ rfl
  simp only [Tryz.ntmps52, List.size_toArray, List.length_cons, List.length_nil, Nat.reduceAdd, Nat.reduceSub, Array.replicate_succ, Array.replicate_zero, List.push_toArray, List.append_toArray, List.nil_append, List.cons_append]
  gi_wp2
  go_ret
  exact ⟨rfl, rfl⟩

/-- The marks of loops over functions are taken away, one after the other. -/
theorem leaves_marks {F : Fence} {n : Nat} {P : Program} {fn : Func} {tmps : Array Value} {R : Ending → World → Prop} {base : Nat} (G : World → Prop)
    (hG : ∀ (A B : World) (l : Nat) (o : Obj), G A → Tw l A B → A.heap[l]? = some o → o.isCells = false → base ≤ l → G B)
    (hR : ∀ A, G A → LeavesIn F n P fn tmps R [] .returning A) : ∀ (rs : List Nat) (A : World), rs.Nodup → (∀ r, r ∈ rs → base ≤ r ∧ A.heap[r]? = some (.deferred (some []))) → G A →
      LeavesInM F n P fn tmps R (rs.map fun r => { target := .collected r, args := #[] }) .returning A
  | [], A, _, _, h => hR A h
  | r :: rs, A, hn, hr, h => by
    obtain ⟨h1, h2⟩ := hr r (List.mem_cons_self ..)
    refine ⟨by simp, .inl ⟨r, _, rfl, run_takeDeferred h2, ?_⟩⟩
    refine leaves_marks G hG hR rs _ (List.nodup_cons.1 hn).2 (fun q hq => ?_) (hG _ _ _ _ h (Tw.put _ _ _) h2 rfl h1)
    obtain ⟨a, b⟩ := hr q (List.mem_cons_of_mem _ hq)
    exact ⟨a, ((Tw.put A r _).block q (fun e => (List.nodup_cons.1 hn).1 (e ▸ hq))).trans b⟩

/-- The tables' cells, one behind the other. -/
def tbL (l : List (Int × Nat)) : List Value := l.flatMap fun p => [.int .i64 p.1, .int .i64 (p.2 : Nat)]
theorem tbL_app (a b : List (Int × Nat)) : tbL (a ++ b) = tbL a ++ tbL b := by simp [tbL]
theorem tbL_at : ∀ (l : List (Int × Nat)) (i : Nat), i < l.length → (tbL l)[i * 2]? = some (.int .i64 (l.getD i (0, 0)).1) ∧ (tbL l)[i * 2 + 1]? = some (.int .i64 ((l.getD i (0, 0)).2 : Nat))
  | [], i, h => by simp at h
  | p :: l, 0, _ => ⟨rfl, rfl⟩
  | p :: l, i + 1, h => by
    have ih := tbL_at l i (by simpa using h)
    rw [show (i + 1) * 2 = i * 2 + 1 + 1 by omega]
    exact ih
theorem info93 : (Tryz.prog.info? 93).map (fun i => (i.zero, i.size, i.bytes)) = some (some (.agg #[.int .i64 0, .int .i64 0]), 2, 16) := by kernel_rfl
theorem cells2_new (w : World) (a b : Value) (t : TypeId) : ∀ j u, [a, b][j]? = some u → (w.alloc (.cells #[a, b] t)).cell? ((⟨w.heap.size, 0, none⟩ : Addr).add j) = some u := fun j u hj => by
  rw [Addr.add_lit, Nat.zero_add]
  exact P.cell_of (heap_alloc_new w _) (by simpa using hj)
/-- A row of tables in a box. -/
structure TR (w : World) (n B : Nat) (q : Nat) (l : List (Int × Nat)) (W : World) : Prop where
  bw : Below n w W
  row : ∃ v, Boxed W B 105 v ∧ W.ownsRow n 93 2 v l.length (tbL l) ∧ v.ownBlock ≠ some q
theorem TR.keep {w : World} {n B q : Nat} {l : List (Int × Nat)} {X Y : World} (h : TR w n B q l X) (b : Below n X Y) (hk : ∀ (g : Nat) (c : Array Value) (T : TypeId), X.heap[g]? = some (.cells c T (0, 0)) → Y.heap[g]? = some (.cells c T (0, 0))) : TR w n B q l Y := by
  obtain ⟨v, a, c, d⟩ := h.row
  exact ⟨h.bw.trans b, v, hk _ _ _ a, own_ab (n := 0) c (fun g cs hg => hk _ _ _ hg) rfl, d⟩
/-- Ahead of a round's loop: i tables have been gone over. -/
structure GI (w : World) (xs : List Int) (root : Int) (i : Nat) (rs : List Nat) (W : World) : Prop where
  tr : TR w (w.heap.size) (w.heap.size + 1 + 1) W.heap.size (gatI xs root i) W
  le : i ≤ (gatI xs root i).length
  nd : rs.Nodup
  ms : ∀ r, r ∈ rs → w.heap.size ≤ r ∧ r < W.heap.size ∧ W.heap[r]? = some (.deferred (some []))
/-- Within it: z have been told. -/
structure GR (w : World) (t : Nat) (L : List (Int × Nat)) (x : Int × Nat) (p0 : Nat) (rs : List Nat) (z : List (Int × Nat)) (W : World) : Prop where
  tr : TR w (w.heap.size) (w.heap.size + 1 + 1) (p0 + 1) (L ++ z) W
  b0 : W.heap[p0]? = some (.cells #[.pointer (some ⟨t, 0, none⟩)] 30 (0, 0))
  b1 : W.heap[p0 + 1]? = some (.cells #[.int .i64 x.1, .int .i64 (x.2 : Nat)] 93 (0, 0))
  ms : ∀ r, r ∈ rs → r < p0 ∧ W.heap[r]? = some (.deferred (some []))
theorem own_lt {W : World} {n e size k : Nat} {v : Value} {xs : List Value} (h : W.ownsRow n e size v k xs) {g : Nat} (hg : v.ownBlock = some g) : g < W.heap.size := by
  rcases h.2 with ⟨h, -⟩ | ⟨g', cap', cur', hgg, -, hgh, -⟩
  · rw [h] at hg; simp [Value.ownBlock] at hg
  · rw [hgg] at hg
    simp [Value.ownBlock] at hg
    have := lt_of_block hgh
    omega
theorem TR.free {w : World} {n B q : Nat} {l : List (Int × Nat)} {X : World} (h : TR w n B q l X) : TR w n B X.heap.size l X := by
  obtain ⟨v, a, c, -⟩ := h.row
  exact ⟨h.bw, v, a, c, fun e => by have := own_lt c e; omega⟩
/-- Behind an append onto a row of tables in a box. -/
theorem app_tab {W w1 : World} {n B q : Nat} {v v' : Value} {k m : Nat} {xs ys : List Value} {tmp : Obj}
    (hv : Boxed W B 105 v) (hrow : W.ownsRow n 93 2 v k xs) (hq : q < W.heap.size) (hqv : v.ownBlock ≠ some q)
    (hown' : w1.ownsRow n 93 2 v' m ys) (hgrow : (W.alloc tmp).grownBy w1 v.ownBlock) (hat : v'.ownBlock = v.ownBlock ∨ v'.ownBlock = some (W.alloc tmp).heap.size) :
    RkG q W (w1.setCell ⟨B, 0, none⟩ v') ∧ v'.ownBlock ≠ some q := by
  obtain ⟨hv1, hv2, hr2, hsz, hk2, hb2⟩ := app_all hv (by decide) hrow hown' hgrow
  refine ⟨fun j c T hj h1 h2 => ?_, ?_⟩
  · by_cases hT : T = 93
    · have hjq := h2 hT
      subst hjq hT
      have hjB : j ≠ B := fun e => by subst e; rw [show W.heap[j]? = _ from hv] at hj; injection hj with hj; injection hj with _ hj _; cases hj
      refine (Below.heap_setCell w1 ⟨B, 0, none⟩ v' j hjB).trans ((hgrow.block j (by simp; omega) fun e => hqv e.symm).trans (P.hkeep hj tmp))
    · exact hk2 j _ hj (fun c e => by injection e with _ e; exact h1 e) (fun c e => by injection e with _ e; exact hT e)
  · rcases hat with e | e
    · rw [e]; exact hqv
    · rw [e]; simp; omega
section
variable {u : Si} {w : World} {t : Nat} {o root : Int} {s : Sm} {k : Nat}
set_option maxRecDepth 100000 in
set_option maxHeartbeats 4000000 in
theorem gather_in (hT : IsT u w t 1 o root) (h : Wo u w s k) :
    CallsIn Fence.wide 3 Tryz.prog 50 #[.agg #[.int .i64 root, .int .i64 (3 : Nat)], .func (.func 52) #[.pointer (some ⟨t, 0, none⟩)] #[]] w fun r w' => (∃ v, r = .returned v ∧ w'.ownsRow w.heap.size 93 2 v (gat s.xs root).length (tbL (gat s.xs root))) ∧ Below w.heap.size w w' := by
  have HW := hid h
  have HT := hid hT
  obtain ⟨i0, hi, hz0, hz1, hz2⟩ := info_parts info93
  have HINF := hid (And.intro hi (And.intro hz0 (And.intro hz1 hz2)))
  clear hT h hi hz0 hz1 hz2
  refine callsIn_of_wp_marks Tryz.func50 rfl trivial ?_ rfl
  simp only [Tryz.ntmps50, List.size_toArray, List.length_cons, List.length_nil, Nat.reduceAdd, Nat.reduceSub, Array.replicate_succ, Array.replicate_zero, List.push_toArray, List.append_toArray, List.nil_append, List.cons_append]
  gi_wp2
  refine wpIn_loop (fun a W => ∃ (i : Nat) (rs : List Nat) (u7 u10 u11 u12 u13 u14 u15 u16 u17 u18 u19 u20 u21 u22 u23 u24 u25 u26 : Value), a = ⟨#[Value.agg #[Value.int .i64 root, Value.int .i64 (3 : Nat)], Value.func (.func 52) #[.pointer (some ⟨t, 0, none⟩)] #[], .pointer (some ⟨w.heap.size, 0, none⟩), undef, .slice none 0 0, .pointer (some ⟨w.heap.size + 1 + 1, 0, none⟩), .int .i64 (i : Nat), u7, Value.agg #[Value.int .i64 root, Value.int .i64 (3 : Nat)], .slice (some ⟨w.heap.size + 1, 0, none⟩) 1 1, u10, u11, u12, u13, u14, u15, u16, u17, u18, u19, u20, u21, u22, u23, u24, u25, u26, undef], rs.map fun r => { target := .collected r, args := #[] }⟩ ∧ GI w s.xs root i rs W)
    (fun a _ => 5000 - (intOf (a.tmps.getD 6 undef)).toNat) ?_ ?_
  · refine ⟨0, [], _, _, _, _, _, _, _, _, _, _, _, _, _, _, _, _, _, _, rfl, ⟨⟨((below_alloc w _).alloc (by simp) _).alloc (by simp; omega) _, .slice (some ⟨w.heap.size + 1, 0, none⟩) 1 1, ?_, ?_, by simp [Value.ownBlock]⟩, by simp [gatI], List.nodup_nil, fun r hr => by simp at hr⟩⟩
    · exact (new3 w _ _ _).2.2
    · exact ⟨rfl, .inr ⟨w.heap.size + 1, 1, _, rfl, by omega, (new3 w _ _ _).2.1, by simp [gatI], by decide, rfl, rfl⟩⟩
  · rintro a W ⟨i, rs, u7, u10, u11, u12, u13, u14, u15, u16, u17, u18, u19, u20, u21, u22, u23, u24, u25, u26, rfl, hg⟩
    have HG := hid hg
    obtain ⟨vs, hbx, hrow, hqv⟩ := hg.tr.row
    have hlen := gatI_len s.xs root i
    have hle := hg.le
    have hbw := hg.tr.bw
    have hc := hbx.cell
    have hms := hg.ms
    have hnd := hg.nd
    have hl1 : 1 ≤ (gatI s.xs root i).length := by simp [gatI]
    by_cases hlt : i < (gatI s.xs root i).length
    · obtain ⟨a1, a2, a3⟩ := gatI_at hlt
      have hxm := gat_lev s.xs root ((gat s.xs root).getD i (0, 0)) (by rw [List.getD_eq_getElem?_getD, List.getElem?_eq_getElem a1]; exact List.getElem_mem _)
      have hat := tbL_at (gatI s.xs root i) i hlt
      rw [a2] at hat
      have HA3 := hid a3
      have hlen2 := gatI_len s.xs root (i + 1)
      have HL2 := hid hlen2
      clear a1 a2 a3 hlen2 hg
      generalize (gat s.xs root).getD i (0, 0) = x at *
      generalize hgi : gatI s.xs root (i + 1) = L2 at *
      have HGI := hid hgi
      clear hgi
      generalize gatI s.xs root i = L at *
      obtain ⟨m, hm⟩ : ∃ m, L.length = m + 1 := ⟨L.length - 1, by omega⟩
      have HM := hid hm
      have HROW := hid hrow
      rw [hm] at hrow
      obtain ⟨g, cap, rfl⟩ := ownsRow_succ hrow
      have hg0 : ∃ cur, W.heap[g]? = some (.cells cur 93 (0, 0)) ∧ cur.toList.take ((m + 1) * 2) = tbL L ∧ m + 1 ≤ cap := by
        rcases hrow.2 with ⟨h, -⟩ | ⟨g', cap', cur, hgg, -, hgh, hcm, -, -, htk⟩
        · cases h
        · injection hgg with a b c
          injection a with a
          injection a with a
          subst a
          exact ⟨cur, hgh, htk, by omega⟩
      obtain ⟨cur, hgh, htk, hcap⟩ := hg0
      have hcell : ∀ j y, (tbL L)[j]? = some y → j < (m + 1) * 2 → cur[j]? = some y := fun j y hj hl => by
        rw [← htk] at hj
        rw [List.getElem?_take_of_lt hl] at hj
        simpa using hj
      have c0 := P.cell_of hgh (hcell _ _ hat.1 (by omega))
      have c1 := P.cell_of hgh (hcell _ _ hat.2 (by omega))
      obtain ⟨xf, xv⟩ := x
      simp only at c0 c1 hxm
      have hwr : wrap64 ((i : Int) + 1) = ((i + 1 : Nat) : Int) := by unfold wrap64; omega
      have hlt' : (i : Int) < (m : Int) + 1 := by omega
      have HMS := hid hms
      have HND := hid hnd
      have HBW := hid hbw
      have HBX := hid hbx
      have HXM := hid hxm
      have HLE := hid hlen
      clear hgh htk hcell hat hms hnd hbw hbx hxm hrow hm hle hlt
      gi_wp2_with fail
      refine ⟨trivial, (below_fn _ t xf xv _).mono ?_⟩
      rintro e w' ⟨rfl, hw'⟩
      rw [hw']
      clear hw' w' c0 c1
      gi_wp2
      have hn0 := P.two_new W (.cells #[.pointer (some ⟨t, 0, none⟩)] 30) (.cells #[.int .i64 xf, .int .i64 (xv : Nat)] 93)
      have hB01 := P.btwo W (.cells #[.pointer (some ⟨t, 0, none⟩)] 30) (.cells #[.int .i64 xf, .int .i64 (xv : Nat)] 93)
      have hs1 : ((W.alloc (.cells #[.pointer (some ⟨t, 0, none⟩)] 30)).alloc (.cells #[.int .i64 xf, .int .i64 (xv : Nat)] 93)).heap.size = W.heap.size + 2 := by simp
      have hms1 : ∀ r, r ∈ rs → r < W.heap.size ∧ ((W.alloc (.cells #[.pointer (some ⟨t, 0, none⟩)] 30)).alloc (.cells #[.int .i64 xf, .int .i64 (xv : Nat)] 93)).heap[r]? = some (.deferred (some [])) := fun r hr => ⟨(HMS.out r hr).2.1, P.hkeep (P.hkeep (HMS.out r hr).2.2 _) _⟩
      have htr1 : TR w (w.heap.size) (w.heap.size + 1 + 1) (W.heap.size + 1) (L ++ []) ((W.alloc (.cells #[.pointer (some ⟨t, 0, none⟩)] 30)).alloc (.cells #[.int .i64 xf, .int .i64 (xv : Nat)] 93)) := by
        have h0 : TR w (w.heap.size) (w.heap.size + 1 + 1) (W.heap.size + 1) L W := ⟨HBW.out, _, HBX.out, HROW.out, fun e => by
          have := own_lt HROW.out e
          omega⟩
        rw [List.append_nil]
        exact h0.keep (hB01.mono HBW.out.size) (fun g c T hg => P.hkeep (P.hkeep hg _) _)
      generalize hW1 : ((W.alloc (.cells #[.pointer (some ⟨t, 0, none⟩)] 30)).alloc (.cells #[.int .i64 xf, .int .i64 (xv : Nat)] 93)) = W1 at *
      have HS1 := hid hs1
      have HI0 : Hid (GR w t L (xf, xv) W.heap.size rs [] W1) := ⟨htr1, hn0.1, hn0.2, hms1⟩
      have HB01 := hid hB01
      clear hW1 hs1 hn0 hB01 hms1 htr1 hqv hc
      refine range_told (F := Fence.wide) (n := 3) rfl (by decide) (gf := 87) (lb := #[.pointer (some ⟨W.heap.size, 0, none⟩), .pointer (some ⟨W.heap.size + 1, 0, none⟩)]) rfl trivial (enters_of Tryz.func87 (by kernel_rfl) rfl)
        (fun x : Int × Nat => #[.agg #[.int .i64 x.1, .int .i64 (x.2 : Nat)]]) (fun _ => rfl) (fun A B => Below A.heap.size A B) (RkG (W.heap.size + 1)) (fun _ _ h => h) (fun A B k o h ho _ => (h.block k (Array.getElem?_eq_some_iff.1 ho).1).trans ho) RkG.trans RkG.tw
        (GR w t L (xf, xv) W.heap.size rs) (OkK s xf xv) (fun z x => z ++ [x]) (fun z => z = kids s.xs (xf, xv)) [] ?hI ?hIp HI0.out ?hit ?hround ?hdone
      case hI => exact fun z A B hz hb => ⟨hz.tr.keep (hb.mono hz.tr.bw.size) (fun g c T hg => P.stay hb hg), P.stay hb hz.b0, P.stay hb hz.b1, fun r hr => ⟨(hz.ms r hr).1, P.stay hb (hz.ms r hr).2⟩⟩
      case hIp => exact fun z A B l ob hz hb hl ho hw => ⟨hz.tr.keep (hb.below (by have := HS1.out; have := HBW.out.size; omega)) (fun g c T hg => hb.cells hl ho hg), hb.cells hl ho hz.b0, hb.cells hl ho hz.b1, fun r hr => ⟨(hz.ms r hr).1, (hb.block r (by have := (hz.ms r hr).1; have := HS1.out; omega)).trans (hz.ms r hr).2⟩⟩
      case hit =>
        intro l J X hBX hJ hJI hY h0
        exact below_in 2 (by decide) u t W.heap.size (W.heap.size + 1) o root xf xv HXM.out s _ (fun z A hz => ⟨hz.b0, hz.b1, HT.out.below hz.tr.bw, k, HW.out.below hz.tr.bw⟩) l J X hJ hJI hY h0
      case hround =>
        rintro l z x X hz hok ⟨ob, hob, hoc⟩
        have HZ := hid hz
        have HO : Hid (W1.heap.size + 1 < X.heap.size) := (Array.getElem?_eq_some_iff.1 hob).1
        have HLZ : Hid ((L ++ z).length ≤ 5000) := by
          obtain ⟨r, hr⟩ := hok
          have h1 := kids_len s.xs (xf, xv)
          have h2 := HLE.out
          rw [hr] at h1
          show _ ≤ _
          simp only [List.length_append, List.length_cons] at *
          omega
        clear hz hok
        obtain ⟨yf, yv⟩ := x
        simp only
        have HG2 := hid (heap_alloc_new X (.cells #[.int .i64 yf, .int .i64 (yv : Nat)] 93))
        gi_wp2
        refine ⟨Ko.of_below (below_alloc X _), RkG.of_below (below_alloc X _), fun W2 hT2 => ?_⟩
        have hlo' := HO.out
        have hl1 : (X.alloc (.cells #[.int .i64 yf, .int .i64 (yv : Nat)] 93)).heap[W1.heap.size + 1]? = some ob := P.hkeep hob _
        have hz2 : GR w t L (xf, xv) W.heap.size rs z W2 := ⟨HZ.out.tr.keep (((below_alloc X _).mono (HZ.out.tr.bw.size)).trans (hT2.below (by have := HS1.out; have := HBW.out.size; omega))) (fun g c T hg => hT2.cells hl1 hoc (P.hkeep hg _)), hT2.cells hl1 hoc (P.hkeep HZ.out.b0 _), hT2.cells hl1 hoc (P.hkeep HZ.out.b1 _), fun r hr => ⟨(HZ.out.ms r hr).1, (hT2.block r (by have := (HZ.out.ms r hr).1; have := HS1.out; omega)).trans (P.hkeep (HZ.out.ms r hr).2 _)⟩⟩
        have hg2 := (hT2.block X.heap.size (by omega)).trans HG2.out
        have HZ2 := hid hz2
        obtain ⟨v, hbx, hrow, hqv⟩ := hz2.tr.row
        have hll := HLZ.out
        have hc := hbx.cell
        obtain ⟨LZ, hLZ⟩ : ∃ LZ, L ++ z = LZ := ⟨_, rfl⟩
        rw [hLZ] at hrow hll
        have HAS : Hid (L ++ (z ++ [(yf, yv)]) = LZ ++ [(yf, yv)]) := by
          show _ = _
          rw [← hLZ, List.append_assoc]
        clear hLZ HLZ
        have g0 := P.cell_of (i := 0) hg2 rfl
        have g1 := P.cell_of (i := 1) hg2 rfl
        have HBX2 := hid hbx
        have HROW2 := hid hrow
        have HQV := hid hqv
        have HP1 := hid (lt_of_block hz2.b1)
        obtain ⟨hi, hz0, hz1, hz2'⟩ := HINF.out
        have hw2 : w.heap.size ≤ W2.heap.size := hz2.tr.bw.size
        clear hT2 hl1 hz2 hg2 hob hoc hqv
        gi_wp2_with (gi_at_builtin; refine wpListIn_append_own_at _ rfl _ _ 105 rfl w.heap.size 93 i0 (.agg #[.int .i64 0, .int .i64 0]) 2 16 Tryz.underlying105 hi hz0 hz1 hz2' rfl (by decide) _ _ _ rfl (HROW2.out.alloc _) ⟨W2.heap.size, 0, none⟩ 1 1 [.int .i64 yf, .int .i64 (yv : Nat)] rfl rfl (cells2_new _ _ _ _) (by simp [Value.oneCell']) (by unfold maxLen; omega) (by omega) (by simp; omega) ?_; intro v' w1 hown' hgrow hnil hat; obtain ⟨g', cap', rfl⟩ := ownsRow_succ hown'; obtain ⟨hv1, hv2, hr2, hsz, hk2, hb2⟩ := app_all HBX2.out (by decide) HROW2.out hown' hgrow; obtain ⟨hrk, hq2⟩ := app_tab HBX2.out HROW2.out HP1.out HQV.out hown' hgrow hat; have hc1 := hv1.cell; have hf1 := hv1.frozen; have HQ2 := hid hq2; have HRK := hid hrk; have HK2 := hid hk2; clear hq2 hrk hk2 hat hnil)
        obtain ⟨z1, z2, z3, z4⟩ := hsz
        have hbw : Below w.heap.size W2 (w1.setCell ⟨w.heap.size + 1 + 1, 0, none⟩ (.slice (some ⟨g', 0, none⟩) (LZ.length + 1) cap')) :=
          ⟨z1.symm, z2.symm, z3.symm, by simpa [World.setCell] using z4, fun q hq => hb2 q (by omega) (by omega) (by omega)⟩
        refine ⟨⟨⟨HZ2.out.tr.bw.trans hbw, _, hv2, ?_, HQ2.out⟩, HRK.out _ _ _ HZ2.out.b0 (by decide) (fun e => absurd e (by decide)), HRK.out _ _ _ HZ2.out.b1 (by decide) (fun _ => rfl), fun r hr => ⟨(HZ2.out.ms r hr).1, HK2.out _ _ (HZ2.out.ms r hr).2 (fun c e => by cases e) (fun c e => by cases e)⟩⟩, ?_, HRK.out⟩
        · rw [HAS.out, List.length_append, List.length_singleton, tbL_app]
          exact hr2
        · intro q ob _ hq ho
          exact HK2.out q ob hq (fun c e => by subst e; cases ho) (fun c e => by subst e; cases ho)
      case hdone =>
        rintro z X rfl hz hK
        have HZ := hid hz
        have HK := hid hK
        have HL3 := hid (HA3.out)
        clear hz hK
        gi_wp2
        rw [hwr]
        refine ⟨⟨i + 1, W1.heap.size :: rs, _, _, _, _, _, _, _, _, _, _, _, _, _, _, _, _, _, _, rfl, ?_⟩, by simp [intOf]; have := HM.out; have := HLE.out; omega⟩
        have hL3 := HL3.out
        have hm := HM.out
        refine ⟨?_, by rw [HGI.out, hL3, List.length_append]; omega, List.nodup_cons.2 ⟨fun hr => ?_, HND.out⟩, fun r hr => ?_⟩
        · rw [HGI.out, hL3]
          exact HZ.out.tr.free
        · have := (HMS.out _ hr).2.1
          have := HS1.out
          omega
        · rcases List.mem_cons.1 hr with rfl | hr
          · exact ⟨by have := HBW.out.size; have := HS1.out; omega, lt_of_block HK.out, HK.out⟩
          · exact ⟨(HMS.out _ hr).1, lt_of_block (HZ.out.ms _ hr).2, (HZ.out.ms _ hr).2⟩
    · have hi' : ¬ (i : Int) < ((gatI s.xs root i).length : Int) := by omega
      have he := gatI_end (by omega) hle
      rw [he] at hrow hi'
      have HROW := hid hrow
      have HBW := hid hbw
      have HMS := hid hms
      have HND := hid hnd
      have HBX := hid hbx
      obtain ⟨n, hn⟩ : ∃ n, (gat s.xs root).length = n + 1 := ⟨(gat s.xs root).length - 1, by rw [he] at hl1; omega⟩
      have HNN := hid hn
      rw [hn] at hrow hi'
      obtain ⟨g, cap, rfl⟩ := ownsRow_succ hrow
      have hi2 : ¬ (i : Int) < (n : Int) + 1 := by omega
      clear hg hqv hrow hbx hbw hms hnd hlen hle hl1 hlt he hi' hn
      gi_wp2
      refine leaves_marks (base := w.heap.size) (fun A => A.ownsRow w.heap.size 93 2 (.slice (some ⟨g, 0, none⟩) (n + 1) cap) (gat s.xs root).length (tbL (gat s.xs root)) ∧ Below w.heap.size w A) (fun A B l ob hA hb hl ho hbl => ⟨own_ab (n := 0) hA.1 (fun g c hg => hb.cells hl ho hg) rfl, hA.2.trans (hb.below hbl)⟩) (fun A hA => ?_) rs W HND.out (fun r hr => ⟨(HMS.out r hr).1, (HMS.out r hr).2.2⟩) ⟨HROW.out, HBW.out⟩
      exact ⟨_, results_tmp rfl _ _ _, ⟨.slice (some ⟨g, 0, none⟩) (n + 1) cap, rfl, hA.1⟩, hA.2⟩
theorem gather_at (hT : IsT u w t 1 o root) (h : Wo u w s k) :
    Calls Tryz.prog 50 #[.agg #[.int .i64 root, .int .i64 3], .func (.func 52) #[.pointer (some ⟨t, 0, none⟩)] #[]] w fun r w' => (∃ v, r = .returned v ∧ w'.ownsRow w.heap.size 93 2 v (gat s.xs root).length (tbL (gat s.xs root))) ∧ Below w.heap.size w w' := callsIn_wide.1 (gather_in hT h)
end
end Go.Proofs.YtpfmmlbakbhklaaGreatDoor
