/- The walk of RingFifo: for every number and all lists the call returns true; nothing that lay before is changed. Condition: the lists read as such. -/
import Derived.Test.YtfnfbceblpaggaaF1
namespace Go.Proofs.Ytfnfbceblpaggaa
open Go.RowKit

/-- A slice that reads as words of 64 bits. -/
def NL (W : World) (q : Option Addr) (n : Nat) (f : Nat → Int) : Prop :=
  n ≤ maxLen ∧ (∀ i, 0 ≤ f i ∧ f i ≤ 18446744073709551615) ∧ (n ≠ 0 → ∃ b off, q = some ⟨b, off, none⟩ ∧ b < W.heap.size ∧ ∀ i, i < n → W.cell? ⟨b, off + i, none⟩ = some (.int .u64 (f i)))
/-- A slice that reads as bools. -/
def BL (W : World) (q : Option Addr) (n : Nat) (f : Nat → Bool) : Prop :=
  n ≤ maxLen ∧ (n ≠ 0 → ∃ b off, q = some ⟨b, off, none⟩ ∧ b < W.heap.size ∧ ∀ i, i < n → W.cell? ⟨b, off + i, none⟩ = some (.bool (f i)))

/-- A ring, and a list of what is in it. -/
structure Ff (w0 : World) (p b r n B : Nat) (w : World) (v : Value) (L : List Int) : Prop where
  qw : Qw w0 p b r 0 n B w L
  wt : Wt w0.heap.size w v L
  vp : v.ownBlock ≠ some p
  vb : v.ownBlock ≠ some b
  vr : v.ownBlock ≠ some r
  len : L.length ≤ n
theorem Ff.below {w0 w w' : World} {p b r n B : Nat} {v : Value} {L : List Int} (h : Ff w0 p b r n B w v L) (k : Below w.heap.size w w') : Ff w0 p b r n B w' v L :=
  { h with qw := h.qw.below k, wt := h.wt.below k }
theorem Wt.but {base p b : Nat} {w w' : World} {v : Value} {L : List Int} (h : Wt base w v L) (vp : v.ownBlock ≠ some p) (vb : v.ownBlock ≠ some b) (K : But p b w w') : Wt base w' v L :=
  h.keep fun q hq => K.block q (h.lt hq).1 (fun e => vp (e ▸ hq)) (fun e => vb (e ▸ hq))
/-- Behind a push that had room: the list is lengthened. -/
theorem Ff.append {w0 w w2 w3 : World} {p b r n B : Nat} {v v' : Value} {L : List Int} {x : Int} (hq : Qw w0 p b r 0 n B w2 (L ++ [x])) (hw : Wt w0.heap.size w v L) (vp : v.ownBlock ≠ some p) (vb : v.ownBlock ≠ some b) (vr : v.ownBlock ≠ some r) (hl : L.length < n)
    (h1 : Wt w0.heap.size w3 v' (L ++ [x])) (h2 : w2.grownBy w3 v.ownBlock) (h3 : v'.ownBlock = v.ownBlock ∨ v'.ownBlock = some w2.heap.size) : Ff w0 p b r n B w3 v' (L ++ [x]) := by
  obtain ⟨s, hkn⟩ := hq.kn
  have l := hkn.mem.lt
  have lr := lt_of_block hkn.ring
  refine ⟨hq.keep (fun q hq' hi => h2.block q hq' (fun e => ?_)) (hkn.bel.grown h2 hkn.bel.size (fun j e => (hw.lt e).2)), h1, ?_, ?_, ?_, by simp; omega⟩
  · rcases hi with rfl | rfl | rfl
    · exact vp e.symm
    · exact vb e.symm
    · exact vr e.symm
  · rcases h3 with h | h
    · rw [h]; exact vp
    · rw [h]; intro e; have : w2.heap.size = p := by simpa using e
      omega
  · rcases h3 with h | h
    · rw [h]; exact vb
    · rw [h]; intro e; have : w2.heap.size = b := by simpa using e
      omega
  · rcases h3 with h | h
    · rw [h]; exact vr
    · rw [h]; intro e; have : w2.heap.size = r := by simpa using e
      omega

/-- An append of one word, at the list of a plain region's operations. -/
theorem wpList_append_wt {w : World} {base : Nat} {L : List Int} {ops : Array Oper} {rest : List Oper} {o : Oper} {a : Act} {Q : Exit → Act → World → Prop} (hgd : o.guard = none) (s x : Operand)
    (ho : o.op = .call { callee := .builtin .append, args := #[s, x], argTypes := #[22, 22] }) (v : Value) (hs : a.eval s = v) (H : Wt base w v L) (hL : L.length ≤ 1000) (hb : base ≤ w.heap.size)
    (y : Int) (ad : Addr) (c : Nat) (hx : a.eval x = .slice (some ad) 1 c) (ha : w.cell? ad = some (.int .u64 y))
    (h : ∀ v' w', Wt base w' v' (L ++ [y]) → w.grownBy w' v.ownBlock → (v'.ownBlock = v.ownBlock ∨ v'.ownBlock = some w.heap.size) → wpList Try.prog ops Q rest (a.put o.dst v') w') :
    wpList Try.prog ops Q (o :: rest) a w := by
  refine wpList_plain hgd fun K hK => ?_
  obtain ⟨v', w', hr, h2, h3, h5⟩ := wt_append H hL hb y ad c ha o.type
  unfold Oper.wp execOp
  simp only [ho, resolve, invoke, builtin, Sem.run_bind, Sem.run_pure, Result.andThen_ok, List.map_toArray, List.map_cons, List.map_nil, hs, hx, hr]
  exact hK _ _ (h v' w' h2 h3 h5)

set_option maxRecDepth 100000 in
set_option maxHeartbeats 2000000 in
theorem fifo_walk (z : Nat) (hz : z < 256) (lq : Option Addr) (ln lc : Nat) (lf : Nat → Int) (bq : Option Addr) (bn bc : Nat) (bf : Nat → Bool) (w : World) (hN : NL w lq ln lf) (hBl : BL w bq bn bf) :
    Calls Try.prog 5 #[.int .u8 z, .slice lq ln lc, .slice bq bn bc] w fun e w' => e = .returned (.bool true) ∧ Below w.heap.size w w' := by
  have HN := hid hN
  have HBL := hid hBl
  have hnm := hN.1
  have hbm := hBl.1
  unfold maxLen at hnm hbm
  clear hN hBl
  obtain ⟨c63, hc63⟩ : ∃ c : Nat, z % 63 = c := ⟨_, rfl⟩
  have hcb : c63 < 63 := by omega
  have hz0 : (0 : Int) ≤ (z : Int) := by omega
  have hz1 : (z : Int) < 256 := by omega
  have htm : (z : Int).tmod 63 = (c63 : Int) := by rw [Int.tmod_eq_emod_of_nonneg (by omega)]; omega
  clear hc63
  go_enter Try.func5, Try.ntmps5
  go_wp2_with fail
  clear htm
  obtain ⟨n, hn⟩ : ∃ n : Nat, (n : Int) = 2 + (c63 : Int) := ⟨2 + c63, by simp⟩
  have hn0 : 2 ≤ n := by omega
  have hn1 : n ≤ 64 := by omega
  rw [← hn]
  clear hn hcb
  refine (new_yes 200 _ (by decide) (by decide)).mono ?_
  rintro e w1 ⟨rfl, hM1, hB1⟩
  have K0 := hid (Kn.first (s := ⟨List.replicate 200 0, 0, 0⟩) 0 n hM1 hB1)
  clear hM1 hB1
  have c0 := K0.out.c0
  have c1 := K0.out.c1
  generalize w.heap.size + 1 = p at *
  generalize hq : w.heap.size = q at *
  have HWq := hid hq
  clear hq
  go_wp2_with fail
  refine (init_at (c := 0) K0.out.mem (cnt_of (by kernel_rfl)) (by decide) n ((0 : Nat) : Int) (qok_of (by omega) hn0 hn1)).mono ?_
  rintro e wa ⟨rfl, T⟩
  rw [(initR_fit (emp n) ⟨List.replicate 200 0, 0, 0⟩ 0 (by rw [empK_length]; simp; omega)).1]
  have J0 : Hid (Qw w p q w1.heap.size 0 n 100 wa []) := hid (Qw.first hn0 hn1 (by omega) (K0.out.turn T))
  clear T K0 c0 c1
  by_cases hbig : 100 < ln ∨ 300 < bn
  · by_cases hl1 : 100 < ln
    · have hd : decide ((100 : Int) < (ln : Int)) = true := by simp; omega
      clear hbig
      go_wp2_with fail
      refine (known_yes _).mono ?_
      rintro e w9 ⟨rfl, K⟩
      have HF := hid (bel_trans J0.out.bel K)
      clear K J0
      go_wp2
      go_ret
      exact ⟨rfl, HF.out⟩
    · have hd : decide ((100 : Int) < (ln : Int)) = false := by simp; omega
      have hd2 : decide ((300 : Int) < (bn : Int)) = true := by simp; omega
      clear hbig
      go_wp2_with fail
      refine (known_yes _).mono ?_
      rintro e w9 ⟨rfl, K⟩
      have HF := hid (bel_trans J0.out.bel K)
      clear K J0
      go_wp2
      go_ret
      exact ⟨rfl, HF.out⟩
  · have hd : decide ((100 : Int) < (ln : Int)) = false := by simp; omega
    have hd2 : decide ((300 : Int) < (bn : Int)) = false := by simp; omega
    have hln : ln ≤ 100 := by omega
    have hbn : bn ≤ 300 := by omega
    clear hbig
    go_wp2
    clear hd hd2
    generalize w1.heap.size = r at *
    have F0 : Hid (Ff w p q r n 100 wa (.slice none 0 0) []) := hid ⟨J0.out, Or.inl ⟨rfl, rfl⟩, by simp [Value.ownBlock], by simp [Value.ownBlock], by simp [Value.ownBlock], by simp⟩
    clear J0
    go_loopw [11, 12, 13] (fun v kk ii wr => ∃ (i k : Nat) (L : List Int), i ≤ bn ∧ k ≤ i ∧ kk = .int .i64 k ∧ ii = .int .i64 i ∧ Ff w p q r n (100 + 2 * i) wr v L) (fun _ _ i _ => bn - (intOf i).toNat)
    case atStart => exact ⟨0, 0, [], by omega, by omega, rfl, rfl, F0.out⟩
    case round =>
      obtain ⟨i, k, L, hi, hk, rfl, rfl, hF⟩ := hrel
      have HF := hid hF
      clear hF F0
      by_cases hlt : i < bn
      · obtain ⟨bb, bo, rfl, hbb, hbc⟩ := HBL.out.2 (by omega)
        have bc1 : wr.cell? ⟨bb, bo + i, none⟩ = some (.bool (bf i)) := (HF.out.qw.bel.cell (p := ⟨bb, bo + i, none⟩) hbb).trans (hbc i hlt)
        clear hbc
        have hil : (i : Int) < (bn : Int) := by omega
        by_cases hbi : bf i = true
        · by_cases hkn : k < ln
          · rw [hbi] at bc1
            obtain ⟨lb, lo, rfl, hlb, hlcs⟩ := HN.out.2.2 (by omega)
            have lc1 : wr.cell? ⟨lb, lo + k, none⟩ = some (.int .u64 (lf k)) := (HF.out.qw.bel.cell (p := ⟨lb, lo + k, none⟩) hlb).trans (hlcs k hkn)
            have lfb := HN.out.2.1 k
            have hkl : (k : Int) < (ln : Int) := by omega
            have hlbr : lb ≠ p ∧ lb ≠ q := by
              obtain ⟨s, hkn⟩ := HF.out.qw.kn
              have := hkn.p0
              have := hkn.b0
              omega
            clear hlcs
            generalize lf k = x at *
            obtain ⟨vq, vc, rfl⟩ := HF.out.wt.len
            have c0 : wr.drew.cell? ⟨r, 0, none⟩ = some (.int .i64 0) := HF.out.qw.c0
            have c1 : wr.drew.cell? ⟨r, 1, none⟩ = some (.int .i64 (n : Int)) := HF.out.qw.c1
            have hS0 : (wr.drew.cell? ⟨r, 0, none⟩ = some (.int .i64 0) ∧ wr.drew.cell? ⟨r, 1, none⟩ = some (.int .i64 (n : Int))) ∧ wr.drew.cell? ⟨lb, lo + k, none⟩ = some (.int .u64 x) := ⟨⟨c0, c1⟩, lc1⟩
            have HC : Hid (Calls Try.prog 28 #[.pointer (some ⟨p, 0, none⟩), .agg #[.int .i64 0, .int .i64 (n : Int)], .int .u64 x] wr.drew fun e w' => e = .returned (.bool (decide (L.length < n))) ∧ ((w'.cell? ⟨r, 0, none⟩ = some (.int .i64 0) ∧ w'.cell? ⟨r, 1, none⟩ = some (.int .i64 (n : Int))) ∧ w'.cell? ⟨lb, lo + k, none⟩ = some (.int .u64 x)) ∧ Hid (Qw w p q r 0 n (100 + 2 * i + 1) w' (if L.length < n then L ++ [x] else L) ∧ But p q wr.drew w')) := by
              refine hid ((Qw.pushB (HF.out.qw.below (Below.refl _ _).drew) (by omega) hn0 hn1 (by omega) lfb.1 lfb.2).mono ?_)
              rintro e w' ⟨rfl, hQ, hK⟩
              exact ⟨rfl, ⟨⟨hQ.c0, hQ.c1⟩, (World.cell?_of_block (a := ⟨lb, lo + k, none⟩) (hK.block _ (World.block_lt_of_cell? wr ⟨lb, lo + k, none⟩ lc1) hlbr.1 hlbr.2)).trans lc1⟩, hQ, hK⟩
            by_cases hr : L.length < n
            · have hr2 : (L.length : Int) < (n : Int) := by omega
              have hd : decide (L.length < n) = true := by simpa using hr
              rw [hd, if_pos hr] at HC
              clear hd c0 c1
              go_wp2_with fail
              go_region_held3 (fun w' => (w'.cell? ⟨r, 0, none⟩ = some (.int .i64 0) ∧ w'.cell? ⟨r, 1, none⟩ = some (.int .i64 (n : Int))) ∧ w'.cell? ⟨lb, lo + k, none⟩ = some (.int .u64 x)) (first | with_reducible exact hS0 | with_reducible assumption)
                (first
                  | (go_at_call 28; refine HC.out.mono ?_; rintro e3 w3 ⟨rfl, hS3, hX⟩))
              have lc3 := hS3.2
              have HX := hid hX.out
              have hlb3 := World.block_lt_of_cell? w3 ⟨lb, lo + k, none⟩ lc3
              clear hS3 hX HC hS0
              go_wp2_with (at_builtin; (refine wpList_append_wt (L := L) (base := w.heap.size) rfl _ _ rfl _ rfl ?o0 (by omega) ?c5 x ⟨w3.heap.size, 0, none⟩ _ rfl ?ad1 ?_))
              case o0 => exact ((HF.out.wt.below (Below.refl _ _).drew).but HF.out.vp HF.out.vb HX.out.2).below (below_alloc _ _)
              case c5 => have := HX.out.1.bel.size; omega
              intro v' w6 hwt hgr hat
              have H6 := hid (Ff.append (HX.out.1.below (below_alloc w3 (.cells #[.int .u64 x] 41))) HF.out.wt HF.out.vp HF.out.vb HF.out.vr hr hwt hgr (hat.imp id (fun h => h.trans (by simp))))
              clear hwt hgr hat HX HF lc3
              go_wp2
              go_roundw
              case rel => exact ⟨i + 1, k + 1, _, by omega, by omega, by go_num, by go_num, { H6.out with qw := H6.out.qw.mono (by omega) }⟩
              case measure => simp [intOf]; omega
            · have hr2 : (n : Int) ≤ (L.length : Int) := by omega
              have hd : decide (L.length < n) = false := by simpa using hr
              rw [hd, if_neg hr] at HC
              clear hd c0 c1
              go_wp2_with fail
              go_region_held3 (fun w' => (w'.cell? ⟨r, 0, none⟩ = some (.int .i64 0) ∧ w'.cell? ⟨r, 1, none⟩ = some (.int .i64 (n : Int))) ∧ w'.cell? ⟨lb, lo + k, none⟩ = some (.int .u64 x)) (first | with_reducible exact hS0 | with_reducible assumption)
                (first
                  | (go_at_call 28; refine HC.out.mono ?_; rintro e3 w3 ⟨rfl, hS3, hX⟩))
              have HX := hid hX.out
              clear hS3 hX HC hS0
              have H6 : Hid (Ff w p q r n (100 + 2 * i + 1) w3 (.slice vq L.length vc) L) := hid ⟨HX.out.1, (HF.out.wt.below (Below.refl _ _).drew).but HF.out.vp HF.out.vb HX.out.2, HF.out.vp, HF.out.vb, HF.out.vr, HF.out.len⟩
              clear HX HF
              go_wp2
              go_roundw
              case rel => exact ⟨i + 1, k + 1, _, by omega, by omega, by go_num, by go_num, { H6.out with qw := H6.out.qw.mono (by omega) }⟩
              case measure => simp [intOf]; omega
          · have hkl : (ln : Int) ≤ (k : Int) := by omega
            rw [hbi] at bc1
            have c0 := HF.out.qw.c0
            have c1 := HF.out.qw.c1
            have HC := hid (HF.out.qw.popB (by omega) hn0 hn1 (by omega))
            cases L with
            | nil =>
              obtain ⟨vq, vc, rfl⟩ := HF.out.wt.len
              simp only [List.length_nil] at *
              go_wp2_with fail
              refine HC.out.mono ?_
              rintro e w3 ⟨rfl, hQ, hK⟩
              have H6 : Hid (Ff w p q r n (100 + 2 * i + 1) w3 (.slice vq 0 vc) []) := hid ⟨hQ, HF.out.wt.but HF.out.vp HF.out.vb hK, HF.out.vp, HF.out.vb, HF.out.vr, by simp⟩
              clear hQ hK HC HF
              rw [show decide (0 < 0) = false from rfl]
              go_wp2
              go_roundw
              case rel => exact ⟨i + 1, k, [], by omega, by omega, by go_num, by go_num, { H6.out with qw := H6.out.qw.mono (by omega) }⟩
              case measure => simp [intOf]; omega
            | cons x L =>
              obtain ⟨vq, vc, rfl⟩ := HF.out.wt.len
              simp only [List.length_cons] at *
              have hll : L.length + 1 ≤ n := HF.out.len
              go_wp2_with fail
              refine HC.out.mono ?_
              rintro e w3 ⟨rfl, hQ, hK⟩
              rw [show decide (0 < L.length + 1) = true by simp, show (x :: L).getD 0 0 = x from rfl]
              obtain ⟨g, off, cap, e1, hcap, hcm, hcell, htl⟩ := (HF.out.wt.but HF.out.vp HF.out.vb hK).head
              simp only [Value.slice.injEq] at e1
              obtain ⟨rfl, _, rfl⟩ := e1
              unfold maxLen at hcm
              have HTL := hid htl
              have HQ := hid hQ
              have hxx : (x != x) = false := by simp
              have vp := HF.out.vp
              have vb := HF.out.vb
              have vr := HF.out.vr
              have HV := hid (And.intro vp (And.intro vb vr))
              clear hQ hK HC htl vp vb vr HF c0 c1
              go_wp2
              refine ⟨⟨i + 1, k, L, by omega, by omega, rfl, by go_num, ?_⟩, by simp [intOf]; omega⟩
              by_cases hv : vc = 1
              · rw [if_pos hv]
                exact ⟨HQ.out.mono (by omega), HTL.out off (fun _ => rfl) (fun h => absurd hv h), HV.out.1, HV.out.2.1, HV.out.2.2, by omega⟩
              · rw [if_neg hv]
                exact ⟨HQ.out.mono (by omega), HTL.out (off + 1) (fun h => absurd h hv) (fun _ => rfl), HV.out.1, HV.out.2.1, HV.out.2.2, by omega⟩
        · have hbi : bf i = false := by simpa using hbi
          rw [hbi] at bc1
          have c0 := HF.out.qw.c0
          have c1 := HF.out.qw.c1
          have HC := hid (HF.out.qw.popB (by omega) hn0 hn1 (by omega))
          cases L with
          | nil =>
            obtain ⟨vq, vc, rfl⟩ := HF.out.wt.len
            simp only [List.length_nil] at *
            go_wp2_with fail
            refine HC.out.mono ?_
            rintro e w3 ⟨rfl, hQ, hK⟩
            have H6 : Hid (Ff w p q r n (100 + 2 * i + 1) w3 (.slice vq 0 vc) []) := hid ⟨hQ, HF.out.wt.but HF.out.vp HF.out.vb hK, HF.out.vp, HF.out.vb, HF.out.vr, by simp⟩
            clear hQ hK HC HF
            rw [show decide (0 < 0) = false from rfl]
            go_wp2
            go_roundw
            case rel => exact ⟨i + 1, k, [], by omega, by omega, by go_num, by go_num, { H6.out with qw := H6.out.qw.mono (by omega) }⟩
            case measure => simp [intOf]; omega
          | cons x L =>
            obtain ⟨vq, vc, rfl⟩ := HF.out.wt.len
            simp only [List.length_cons] at *
            have hll : L.length + 1 ≤ n := HF.out.len
            go_wp2_with fail
            refine HC.out.mono ?_
            rintro e w3 ⟨rfl, hQ, hK⟩
            rw [show decide (0 < L.length + 1) = true by simp, show (x :: L).getD 0 0 = x from rfl]
            obtain ⟨g, off, cap, e1, hcap, hcm, hcell, htl⟩ := (HF.out.wt.but HF.out.vp HF.out.vb hK).head
            simp only [Value.slice.injEq] at e1
            obtain ⟨rfl, _, rfl⟩ := e1
            unfold maxLen at hcm
            have HTL := hid htl
            have HQ := hid hQ
            have hxx : (x != x) = false := by simp
            have vp := HF.out.vp
            have vb := HF.out.vb
            have vr := HF.out.vr
            have HV := hid (And.intro vp (And.intro vb vr))
            clear hQ hK HC htl vp vb vr HF c0 c1
            go_wp2
            refine ⟨⟨i + 1, k, L, by omega, by omega, rfl, by go_num, ?_⟩, by simp [intOf]; omega⟩
            by_cases hv : vc = 1
            · rw [if_pos hv]
              exact ⟨HQ.out.mono (by omega), HTL.out off (fun _ => rfl) (fun h => absurd hv h), HV.out.1, HV.out.2.1, HV.out.2.2, by omega⟩
            · rw [if_neg hv]
              exact ⟨HQ.out.mono (by omega), HTL.out (off + 1) (fun h => absurd h hv) (fun _ => rfl), HV.out.1, HV.out.2.1, HV.out.2.2, by omega⟩
      · have hil : (bn : Int) ≤ (i : Int) := by omega
        have HB := hid HF.out.qw.bel
        clear HF
        go_wp2_with fail
        refine (known_yes _).mono ?_
        rintro e w9 ⟨rfl, K⟩
        have HFF := hid (bel_trans HB.out K)
        clear K HB
        go_wp2
        go_ret
        exact ⟨rfl, HFF.out⟩
end Go.Proofs.Ytfnfbceblpaggaa
