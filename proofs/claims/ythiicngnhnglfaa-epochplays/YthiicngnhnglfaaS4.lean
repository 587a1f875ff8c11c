/- What takeTill, Waiting, Free, Retire and Advance return and leave, for every epochs that lie in memory and every number. No conditions beyond what Ok says of epochs that New gave, some calls ago. -/
import Derived.Test.YthiicngnhnglfaaS3
namespace Go.Proofs.Ythiicngnhnglfaa
open Go.RowKit Go.Maps

theorem take_snoc (l : List Nat) (k : Nat) (h : k < l.length) : l.take (k + 1) = l.take k ++ [l.getD k 0] := by
  rw [List.take_succ_eq_append_getElem h]
  simp [List.getD, h]

set_option maxRecDepth 100000 in
set_option maxHeartbeats 1000000 in
theorem takeTill_at {w : World} {m : Nat} {L : Ws} (h : Own w m L) (hU : Up L) (hlen : L.length ≤ 1000000) (hf : ∀ p ∈ L, p.1 < 9223372036854775808) (last : Int) :
    Calls Try.prog 30 #[.map (some m), .int .i64 last] w fun e w' => ∃ v, e = .returned v ∧ w'.ownsRow w.heap.size 3 1 v (tl last L).length (ints (tl last L)) ∧ Own w' m (lv last L) ∧ w.grownBy w' (some m) := by
  have HT := hid (till_at h hU hlen last)
  have HX : Hid (strike (tl last L) L = lv last L) := strike_tl hU last
  have HF : Hid (∀ k, k < (tl last L).length → (tl last L).getD k 0 < 9223372036854775808) := by
    intro k hk
    have hm : (tl last L).getD k 0 ∈ tl last L := by simp [List.getD, hk]
    obtain ⟨a, ha, _⟩ := tl_mem.1 hm
    exact hf _ ha
  have HN : Hid ((tl last L).length ≤ 1000000) := by
    unfold tl
    rw [List.length_map]
    exact Nat.le_trans (List.length_filter_le _ _) hlen
  have hml := h.lt
  clear hlen hf
  generalize tl last L = l at *
  generalize lv last L = L' at *
  go_enter Try.func30, Try.ntmps30
  go_wp2_with fail
  refine HT.out.mono ?_
  rintro e w1 ⟨v, rfl, hrow, hB⟩
  have hg1 := grown_below hB (some m)
  have hO1 := h.kept (grown_below hB none) (by simp)
  have HR := hid hrow
  rcases hrow.2 with ⟨rfl, hnil⟩ | ⟨g, cap, cur, rfl, hbase, hb, h1, h2, h3, h4⟩
  · obtain rfl : l = [] := List.eq_nil_of_length_eq_zero hnil
    have HO := hid hO1
    have HG := hid hg1
    clear hrow hnil hB hO1 hg1 h
    rw [strike_nil] at HX
    go_wp2
    refine wp_loop_rounds 1 ?_
    rw [rounds_succ]
    go_wp2
    go_ret
    exact ⟨_, rfl, HR.out, by rw [← HX.out]; exact HO.out, HG.out⟩
  · have hcs := hrow.cells (g := g) rfl
    have HC : Hid (∀ k, k < l.length → w1.cell? ⟨g, k, none⟩ = some (.int .i64 (l.getD k 0 : Nat))) := by
      intro i hi
      have := hcs i (.int .i64 (l[i] : Nat)) (by simp [ints, hi])
      have ha : ((⟨g, 0, none⟩ : Addr).add i) = ⟨g, i, none⟩ := by by_cases h : i = 0 <;> simp [Addr.add, h]
      rw [ha] at this
      simpa [List.getD, hi] using this
    have hgm : g ≠ m := by omega
    have hgl := lt_of_block hb
    have HO := hid hO1
    have HG := hid hg1
    clear hrow hcs hB hO1 hg1 h h1 h2 h3 h4 hb hbase hml
    generalize hn : l.length = n at *
    have HNn := hid hn
    clear hn
    have hn2 : n ≤ 1000000 := HN.out
    go_wp2_with fail
    go_loopw [13] (fun i wr => ∃ k : Nat, k ≤ n ∧ i = .int .i64 k ∧ Own wr m (strike (l.take k) L) ∧ w1.grownBy wr (some m)) (fun i _ => n - (intOf i).toNat)
    case atStart => exact ⟨0, Nat.zero_le _, rfl, by rw [List.take_zero, strike_nil]; exact HO.out, ⟨rfl, rfl, rfl, Nat.le_refl _, fun _ _ _ => rfl⟩⟩
    case round =>
      obtain ⟨k, hk, rfl, hO, hgw⟩ := hrel
      by_cases hlt : k < n
      · have c1 := HC.out k hlt
        have c2 : wr.cell? ⟨g, k, none⟩ = some (.int .i64 (l.getD k 0 : Nat)) := by
          rw [← c1]
          have := hgw.block g hgl (fun e => hgm (by cases e; rfl))
          simp [World.cell?, this]
        have hx := HF.out k hlt
        have HK := hid (take_snoc l k (by have := HNn.out; omega))
        have hw : IntKind.i64.wrap ((k : Int) + 1) = (k : Int) + 1 := i64w (by omega) (by omega)
        clear c1
        generalize l.getD k 0 = x at *
        have HGW := hid hgw
        clear hgw
        go_wp2_with (first
          | (at_delete; refine wpList_delete_own _ rfl _ _ 49 3 rfl 3 key3 Try.underlying49 _ m _ _ rfl hO _ _ rfl (keyOf_int_mk Try.underlying3 (wfN hx)) ?_; intro w2 hO2 hturn)
          | go_in)
        go_roundw
        case rel =>
          refine ⟨k + 1, by omega, by go_num, ?_, ?_⟩
          · rw [del_Dm, strike_snoc] at hO2
            rw [HK.out]
            exact owns_len hO2
          · exact HGW.out.andThen hturn.grown (fun j hj => Or.inr hj)
        case measure => simp [intOf]; omega
      · obtain rfl : k = n := by omega
        have HO2 := hid hO
        have HGW := hid hgw
        clear hO hgw
        go_wp2
        go_ret
        refine ⟨_, rfl, ?_, ?_, ?_⟩
        · have := HR.out
          have hgw := HGW.out
          rw [HNn.out]
          exact this.kept hgw (Or.inr (by simp [Value.ownBlock]; omega))
        · have := HO2.out
          rw [← HX.out]
          rw [← HNn.out, List.take_length] at this
          exact this
        · exact HG.out.andThen HGW.out (fun j hj => Or.inr hj)

/-! ### Waiting, Free -/
set_option maxHeartbeats 400000 in
theorem waiting_none {w : World} {v : Value} (h : NoE w v) :
    Calls Try.prog 24 #[v] w fun e w' => e = .returned (.slice none 0 0) ∧ w' = w := by
  have HH := hid h
  clear h
  go_enter Try.func24, Try.ntmps24
  go_wp2_with fail
  refine (isNone_yes HH.out).mono ?_
  rintro e w1 ⟨rfl, rfl⟩
  go_wp2
  go_ret
  exact ⟨rfl, rfl⟩
set_option maxHeartbeats 400000 in
theorem free_none {w : World} {v : Value} (h : NoE w v) :
    Calls Try.prog 19 #[v] w fun e w' => e = .returned (.slice none 0 0) ∧ w' = w := by
  have HH := hid h
  clear h
  go_enter Try.func19, Try.ntmps19
  go_wp2_with fail
  refine (isNone_yes HH.out).mono ?_
  rintro e w1 ⟨rfl, rfl⟩
  go_wp2
  go_ret
  exact ⟨rfl, rfl⟩
set_option maxRecDepth 100000 in
set_option maxHeartbeats 1000000 in
theorem waiting_at {w : World} {p b m B : Nat} {s : Ep} (h : IsE w p b m s) (k : Ok B s) (hB : B ≤ 1000000) :
    Calls Try.prog 24 #[.pointer (some ⟨p, 0, none⟩)] w fun e w' => ∃ v, e = .returned v ∧ w'.ownsRow w.heap.size 3 1 v (waL s).length (ints (waL s)) ∧ Below w.heap.size w w' := by
  have HN := hid (isNone_no h k.pos)
  obtain ⟨c, hc0, -, hc2, -⟩ := h.heads
  have hS0 : w.drew.cell? ⟨p, 0, none⟩ = some (.int .i64 s.n) ∧ w.drew.cell? ⟨p, 2, none⟩ = some (.map (some m)) := ⟨hc0, hc2⟩
  have HT : Hid (Calls Try.prog 34 #[.map (some m), .int .i64 s.n] w.drew fun e w' => ∃ v, e = .returned v ∧ (w'.cell? ⟨p, 0, none⟩ = some (.int .i64 s.n) ∧ w'.cell? ⟨p, 2, none⟩ = some (.map (some m))) ∧ Hid (w'.ownsRow w.heap.size 3 1 v (waL s).length (ints (waL s)) ∧ Below w.heap.size w w')) := by
    have := till_at (w := w.drew) h.map.drew k.up (by have := k.len; omega) s.n
    rw [waL_tl k] at this
    refine this.mono ?_
    rintro e w' ⟨v, rfl, r, b⟩
    exact ⟨v, rfl, ⟨(b.cell (p := ⟨p, 0, none⟩) h.lt.1).trans hc0, (b.cell (p := ⟨p, 2, none⟩) h.lt.1).trans hc2⟩, r, (Below.refl _ w).drew.trans b⟩
  clear h k hB
  generalize s.n = n at *
  go_enter Try.func24, Try.ntmps24
  go_wp2_with fail
  refine HN.out.mono ?_
  rintro e w1 ⟨rfl, rfl⟩
  go_wp2_with fail
  go_region_held3 (fun w' => w'.cell? ⟨p, 0, none⟩ = some (.int .i64 n) ∧ w'.cell? ⟨p, 2, none⟩ = some (.map (some m))) (first | with_reducible exact hS0 | with_reducible assumption)
    (first
      | (go_at_call 34; refine HT.out.mono ?_; rintro e2 w2 ⟨v, rfl, hS2, HR⟩))
  go_wp2
  go_ret
  exact ⟨_, rfl, HR.out.1, HR.out.2⟩
set_option maxRecDepth 100000 in
set_option maxHeartbeats 1000000 in
theorem free_at {w : World} {p b m B : Nat} {s : Ep} (h : IsE w p b m s) (k : Ok B s) (hB : B ≤ 1000000) :
    Calls Try.prog 19 #[.pointer (some ⟨p, 0, none⟩)] w fun e w' => ∃ v, e = .returned v ∧ w'.ownsRow w.heap.size 3 1 v (frL s).length (ints (frL s)) ∧ IsE w' p b m (frS s) ∧ Bt p b m w w' := by
  have HN := hid (isNone_no h k.pos)
  have hnm := h.nem
  have hlt := h.lt
  obtain ⟨c, hc0, -, hc2, -⟩ := h.heads
  have hS0 : w.drew.cell? ⟨p, 0, none⟩ = some (.int .i64 s.n) ∧ w.drew.cell? ⟨p, 2, none⟩ = some (.map (some m)) := ⟨hc0, hc2⟩
  have HT : Hid (Calls Try.prog 30 #[.map (some m), .int .i64 ((s.n : Int) - 2)] w.drew fun e w' => ∃ v, e = .returned v ∧ (w'.cell? ⟨p, 0, none⟩ = some (.int .i64 s.n) ∧ w'.cell? ⟨p, 2, none⟩ = some (.map (some m))) ∧ Hid (w'.ownsRow w.heap.size 3 1 v (frL s).length (ints (frL s)) ∧ IsE w' p b m (frS s) ∧ Bt p b m w w')) := by
    have := takeTill_at (w := w.drew) h.map.drew k.up (by have := k.len; omega) k.fits ((s.n : Int) - 2)
    refine this.mono ?_
    rintro e w' ⟨v, rfl, r, hO, hg⟩
    have hE := h.drew.setM hg hO
    obtain ⟨c', hc0', -, hc2', -⟩ := hE.heads
    exact ⟨v, rfl, ⟨hc0', hc2'⟩, r, hE, ((Bt.refl p b m w).drew).trans (Bt.of_grown hg)⟩
  have hw : IntKind.i64.wrap ((s.n : Int) - 2) = (s.n : Int) - 2 := i64w (by omega) (by have := k.top; omega)
  clear h k hB hnm hlt
  generalize s.n = n at *
  go_enter Try.func19, Try.ntmps19
  go_wp2_with fail
  refine HN.out.mono ?_
  rintro e w1 ⟨rfl, rfl⟩
  go_wp2_with fail
  go_region_held3 (fun w' => w'.cell? ⟨p, 0, none⟩ = some (.int .i64 n) ∧ w'.cell? ⟨p, 2, none⟩ = some (.map (some m))) (first | with_reducible exact hS0 | with_reducible assumption)
    (first
      | (go_at_call 30; refine HT.out.mono ?_; rintro e2 w2 ⟨v, rfl, hS2, HR⟩))
  go_wp2
  go_ret
  exact ⟨_, rfl, HR.out.1, HR.out.2.1, HR.out.2.2⟩

/-! ### Retire -/
set_option maxHeartbeats 400000 in
theorem retire_none {w : World} {v : Value} (h : NoE w v) (f : Int) :
    Calls Try.prog 14 #[v, .int .i64 f] w fun e w' => e = .returned (.int .i64 10) ∧ w' = w := by
  have HH := hid h
  clear h
  go_enter Try.func14, Try.ntmps14
  go_wp2_with fail
  refine (isNone_yes HH.out).mono ?_
  rintro e w1 ⟨rfl, rfl⟩
  go_wp2
  go_ret
  exact ⟨rfl, rfl⟩
set_option maxRecDepth 100000 in
set_option maxHeartbeats 1000000 in
theorem retire_neg {w : World} {p b m : Nat} {s : Ep} (h : IsE w p b m s) (hp : 1 ≤ s.P.length) (f : Int) (hf : f < 0) :
    Calls Try.prog 14 #[.pointer (some ⟨p, 0, none⟩), .int .i64 f] w fun e w' => e = .returned (.int .i64 1) ∧ w' = w := by
  have HN := hid (isNone_no h hp)
  clear h
  go_enter Try.func14, Try.ntmps14
  go_wp2_with fail
  refine HN.out.mono ?_
  rintro e w1 ⟨rfl, rfl⟩
  go_wp2
  go_ret
  exact ⟨rfl, rfl⟩
set_option maxRecDepth 100000 in
set_option maxHeartbeats 1000000 in
theorem retire_twice {w : World} {p b m : Nat} {s : Ep} (h : IsE w p b m s) (hp : 1 ≤ s.P.length) (f : Nat) (hf : f < 9223372036854775808) (hW : hasW f s.L = true) :
    Calls Try.prog 14 #[.pointer (some ⟨p, 0, none⟩), .int .i64 f] w fun e w' => e = .returned (.int .i64 5) ∧ w' = w := by
  have HN := hid (isNone_no h hp)
  have HH := hid (has_at h.map f hf)
  obtain ⟨c, -, -, hc2, -⟩ := h.heads
  rw [hW] at HH
  have h0 : ¬ (f : Int) < 0 := by omega
  clear h hW
  go_enter Try.func14, Try.ntmps14
  go_wp2_with fail
  refine HN.out.mono ?_
  rintro e w1 ⟨rfl, rfl⟩
  go_wp2_with fail
  refine HH.out.mono ?_
  rintro e w1 ⟨rfl, rfl⟩
  go_wp2
  go_ret
  exact ⟨rfl, rfl⟩
set_option maxRecDepth 100000 in
set_option maxHeartbeats 1000000 in
theorem retire_ok {w : World} {p b m B : Nat} {s : Ep} (h : IsE w p b m s) (k : Ok B s) (hB : B ≤ 1000000) (f : Nat) (hf : f < 9223372036854775808) (hW : hasW f s.L = false) :
    Calls Try.prog 14 #[.pointer (some ⟨p, 0, none⟩), .int .i64 f] w fun e w' => e = .returned (.int .i64 0) ∧ IsE w' p b m ⟨s.n, s.P, ins f s.n s.L⟩ ∧ Bt p b m w w' := by
  have HN := hid (isNone_no h k.pos)
  have HH := hid (has_at h.map f hf)
  have HE := hid h
  obtain ⟨c, hc0, -, hc2, -⟩ := h.heads
  rw [hW] at HH
  have h0 : ¬ (f : Int) < 0 := by omega
  have HW := hid hW
  have htop := k.top
  have hlen := k.len
  obtain ⟨w', hrun, hO, hT⟩ := (h.map.drew).store key3 Try.underlying49 (by unfold maxLen; omega) (keyOf_int_mk Try.underlying3 (wfN hf)) (plainElem_int Try.underlying3 (wfN (n := s.n) (by omega)))
  rw [put_Dm hW] at hO
  have HO := hid (owns_len hO)
  have HT := hid hT
  clear h hW k hO hT
  generalize hn : s.n = n at *
  have HNn := hid hn
  clear hn
  go_enter Try.func14, Try.ntmps14
  go_wp2_with fail
  refine HN.out.mono ?_
  rintro e w1 ⟨rfl, rfl⟩
  go_wp2_with fail
  refine HH.out.mono ?_
  rintro e w1 ⟨rfl, rfl⟩
  go_wp2_with fail
  go_region
  all_goals
    go_wp2
    go_ret
    refine ⟨rfl, ?_, ((Bt.refl p b m w1).drew).trans (Bt.of_grown HT.out.grown)⟩
    have := HE.out.drew.setM HT.out.grown HO.out
    rw [HNn.out] at this
    exact this
end Go.Proofs.Ythiicngnhnglfaa
