/- The iterator over the frames that are meant (those), of a kind and of an owner: for every pool whose descriptors lie in memory it hands on the numbers of just these frames, rising; of no pool none. No other condition. -/
import Derived.Test.YtpfmmlbakbhklaaGreatDoorOS1
import Derived.RangeFuncNested
import Derived.RangeFuncBound
import Derived.RangeFuncBox
import Derived.RangeFuncCalls
import Derived.RangeFuncLeaves
import Derived.Shelf.Abstract
import Derived.Shelf.RegionOpen
import Derived.OwnWalkIn
import Derived.TacticsInMore
import Derived.LoopNIn
import Derived.LoopIn
namespace Go.Proofs.YtpfmmlbakbhklaaGreatDoor.O
open Go.RowKit Go.Shelf

attribute [local go_sem] Oper.semAt_some

/-- Whatever lay below n is as it was, but for the block c. -/
structure Kc (c n : Nat) (w w' : World) : Prop where
  os : w'.os = w.os
  tape : w'.tape = w.tape
  output : w'.output = w.output
  size : w.heap.size ≤ w'.heap.size
  block : ∀ k, k < n → k ≠ c → w'.heap[k]? = w.heap[k]?
theorem Kc.refl (c n : Nat) (w : World) : Kc c n w w := ⟨rfl, rfl, rfl, Nat.le_refl _, fun _ _ _ => rfl⟩
theorem Kc.trans {c n : Nat} {x y z : World} (h : Kc c n x y) (k : Kc c n y z) : Kc c n x z :=
  ⟨k.os.trans h.os, k.tape.trans h.tape, k.output.trans h.output, Nat.le_trans h.size k.size, fun i hi a => (k.block i hi a).trans (h.block i hi a)⟩
theorem Kc.of_below {c n : Nat} {w w' : World} (h : Below n w w') : Kc c n w w' := ⟨h.os, h.tape, h.output, h.size, fun k hk _ => h.block k hk⟩
theorem Kc.below {c n m : Nat} {w w' : World} (h : Kc c n w w') (hm : m ≤ n) (hc : m ≤ c) : Below m w w' := ⟨h.os, h.tape, h.output, h.size, fun k hk => h.block k (by omega) (by omega)⟩
theorem Kc.setCell (c n : Nat) (w : World) (i : Nat) (u : Value) : Kc c n w (w.setCell ⟨c, i, none⟩ u) :=
  ⟨rfl, rfl, rfl, by simp [World.setCell], fun k _ h => Below.heap_setCell w _ u k h⟩
theorem Kc.cell {c n : Nat} {w w' : World} (h : Kc c n w w') {p : Addr} (hp : p.block < n) (hc : p.block ≠ c) : w'.cell? p = w.cell? p := World.cell?_of_block (h.block p.block hp hc)
theorem Kc.pool {c n : Nat} {t u : TypeId} {w w' : World} (h : Kc c n w w') {p b : Nat} {L : List Ds} (hP : IsP t u w p b L) (h1 : p < n) (h2 : b < n) (h3 : p ≠ c) (h4 : b ≠ c) : IsP t u w' p b L :=
  hP.keep (h.block p h1 h3) (h.block b h2 h4)
theorem Kc.putObj {c n : Nat} (W : World) (l : Nat) (o' : Obj) (hl : n ≤ l) : Kc c n W (W.putObj l o') :=
  have g := grownBy_putObj' W l o'
  ⟨g.os, g.tape, g.output, g.size, fun k hk _ => by
    by_cases h : k < W.heap.size
    · exact g.block k h (by simp; omega)
    · have h1 : W.heap.size ≤ k := by omega
      have h2 : (W.putObj l o').heap.size = W.heap.size := by simp [World.putObj]
      rw [Array.getElem?_eq_none h1, Array.getElem?_eq_none (by omega)]⟩
theorem kcK_b {c : Nat} {w : World} (W : World) (l : Nat) (o o' : Obj) (hl : w.heap.size ≤ l) (_ : W.heap[l]? = some o) (_ : o.isCells = false) (_ : o.isWalk = false) : Kc c w.heap.size W (W.putObj l o') := Kc.putObj W l o' hl
theorem grown_of_below {w w' : World} (h : Below w.heap.size w w') : w.grownBy w' none := ⟨h.os, h.tape, h.output, h.size, fun k hk _ => h.block k hk⟩

set_option maxHeartbeats 1000000 in
theorem those_in (n : Nat) (q : Option Addr) (g B : Nat) (w : World) :
    CallsIn Fence.wide n Tryz.prog 68 #[.pointer q, .func (.func g) #[] #[.pointer (some ⟨B, 0, none⟩)]] w fun e w' => e = .returned (.func (.func 109) #[] #[.pointer (some ⟨w.heap.size, 0, none⟩), .pointer (some ⟨w.heap.size + 1, 0, none⟩)]) ∧ w' = (w.alloc (.cells #[.pointer q] 32)).alloc (.cells #[.func (.func g) #[] #[.pointer (some ⟨B, 0, none⟩)]] 133) := by
  refine callsIn_of_wp Tryz.func68 rfl trivial ?_ rfl
  simp only [Tryz.ntmps68, List.size_toArray, List.length_cons, List.length_nil, Nat.reduceAdd, Nat.reduceSub, Array.replicate_succ, Array.replicate_zero, List.push_toArray, List.append_toArray, List.nil_append, List.cons_append]
  gi_wp2
  go_ret
  exact ⟨rfl, rfl⟩

set_option maxHeartbeats 1000000 in
theorem ofK_in (n : Nat) (k : Int) (w : World) :
    CallsIn Fence.wide n Tryz.prog 69 #[.int .i64 k] w fun e w' => e = .returned (.func (.func 110) #[] #[.pointer (some ⟨w.heap.size, 0, none⟩)]) ∧ w' = w.alloc (.cells #[.int .i64 k] 3) := by
  refine callsIn_of_wp Tryz.func69 rfl trivial ?_ rfl
  simp only [Tryz.ntmps69, List.size_toArray, List.length_cons, List.length_nil, Nat.reduceAdd, Nat.reduceSub, Array.replicate_succ, Array.replicate_zero, List.push_toArray, List.append_toArray, List.nil_append, List.cons_append]
  gi_wp2
  go_ret
  exact ⟨rfl, rfl⟩

set_option maxHeartbeats 1000000 in
theorem meantK_any (a0 a1 a2 a3 k : Int) (B : Nat) (w : World) (hc : w.cell? ⟨B, 0, none⟩ = some (.int .i64 k)) :
    Calls Tryz.prog 110 #[.agg #[.int .i64 a0, .int .i64 a1, .int .i64 a2, .int .i64 a3], .pointer (some ⟨B, 0, none⟩)] w fun e w' => e = .returned (.bool (isK k ⟨a0, a1, a2, a3⟩)) ∧ Below w.heap.size w w' := by
  have g : (w.alloc (.cells #[.int .i64 a0, .int .i64 a1, .int .i64 a2, .int .i64 a3] 64)).cell? ⟨B, 0, none⟩ = some (.int .i64 k) := ((below_one w _).cell (p := ⟨B, 0, none⟩) (World.block_lt_of_cell? w ⟨B, 0, none⟩ hc)).trans hc
  have hB := hid (below_one w (.cells #[.int .i64 a0, .int .i64 a1, .int .i64 a2, .int .i64 a3] 64))
  clear hc
  go_enter Tryz.func110, Tryz.ntmps110
  go_wp2
  go_ret
  exact ⟨rfl, hB.out⟩

set_option maxRecDepth 100000 in
set_option maxHeartbeats 2000000 in
theorem thoseK_in (n : Nat) (hn : 1 ≤ n) (l Bp Bm Bk c n₁ p b : Nat) (L : List Ds) (k : Int) (J Jx : List Nat → World → Prop)
    (hJ : ∀ pre A B, J pre A → Below A.heap.size A B → J pre B)
    (hY : ∀ pre (x : Nat) W, J pre W → pre.length < (wh (isK k) L).length → YieldAt Fence.wide (n - 1) Tryz.prog l #[.int .i64 (x : Nat)] W fun e W' =>
      (e = .returned (.bool true) ∧ J (pre ++ [x]) W' ∧ Kc c n₁ W W') ∨ (e = .returned (.bool false) ∧ Jx (pre ++ [x]) W'))
    (W : World) (hBp : W.cell? ⟨Bp, 0, none⟩ = some (.pointer (some ⟨p, 0, none⟩))) (hBm : W.cell? ⟨Bm, 0, none⟩ = some (.func (.func 110) #[] #[.pointer (some ⟨Bk, 0, none⟩)])) (hBk : W.cell? ⟨Bk, 0, none⟩ = some (.int .i64 k)) (hP : PP W p b L)
    (hlt : (Bm < n₁ ∧ Bk < n₁ ∧ p < n₁ ∧ b < n₁) ∧ Bm ≠ c ∧ Bk ≠ c ∧ p ≠ c ∧ b ≠ c) (hn₁ : n₁ ≤ W.heap.size) (h0 : J [] W) :
    CallsIn Fence.wide n Tryz.prog 109 #[.func (.yield l) #[] #[], .pointer (some ⟨Bp, 0, none⟩), .pointer (some ⟨Bm, 0, none⟩)] W fun e W' => (∃ v, e = .returned v) ∧
      ((∃ ys, ys = wh (isK k) L ∧ J ys W') ∨ (∃ pre, pre <+: wh (isK k) L ∧ Jx pre W')) := by
  have HP := hid hP
  have HY := hid hY
  have HJ := hid hJ
  have HLT := hid hlt
  have HM := hid hBm
  have HK := hid hBk
  have HN := hid hn₁
  have HTop := hid hP.top
  obtain ⟨cc, hc⟩ := hP.slice
  have hnL : L.length < 65536 := by have := HTop.out; omega
  generalize hq : L.length = N at hc hnL
  have HQ := hid hq
  clear hP hY hJ hlt hBm hBk hn₁ hq
  refine callsIn_of_wp Tryz.func109 rfl trivial ?_ rfl
  simp only [Tryz.ntmps109, List.size_toArray, List.length_cons, List.length_nil, Nat.reduceAdd, Nat.reduceSub, Array.replicate_succ, Array.replicate_zero, List.push_toArray, List.append_toArray, List.nil_append, List.cons_append]
  gi_wp2_with fail
  refine ⟨trivial, (callsIn_wide.2 (isNone_no HP.out)).mono ?_⟩
  rintro e w' ⟨rfl, rfl⟩
  gi_wp2
  gi_loopw [13] (fun i wr => ∃ j : Nat, j ≤ N ∧ i = .int .i64 (j : Nat) ∧ J (upW (isK k) L j) wr ∧ Kc c n₁ w' wr)
    (fun i _ => N - (intOf i).toNat)
  case atStart =>
    exact ⟨0, Nat.zero_le _, rfl, h0, Kc.refl _ _ _⟩
  case round =>
    obtain ⟨j, hj, rfl, hJs, hKs⟩ := hrel
    have HJs := hid hJs
    have HKs := hid hKs
    clear hJs
    by_cases hjN : j < N
    · have hjL : Hid (j < L.length) := by rw [HQ.out]; exact hjN
      have hPr := hKs.pool HP.out HLT.out.1.2.2.1 HLT.out.1.2.2.2 HLT.out.2.2.2.1 HLT.out.2.2.2.2
      have hMr := (hKs.cell (p := ⟨Bm, 0, none⟩) HLT.out.1.1 HLT.out.2.1).trans HM.out
      have hKr := (hKs.cell (p := ⟨Bk, 0, none⟩) HLT.out.1.2.1 HLT.out.2.2.1).trans HK.out
      have HNr : Hid (n₁ ≤ wr.heap.size) := Nat.le_trans HN.out hKs.size
      clear hKs
      obtain ⟨c0, c1, c2, c3⟩ := hPr.cells j hjL.out
      have hup : Hid (∀ (z : Bool), isK k ⟨(L.getD j zd).k, (L.getD j zd).o, (L.getD j zd).r, (L.getD j zd).e⟩ = z → upW (isK k) L (j + 1) = if z then upW (isK k) L j ++ [j] else upW (isK k) L j) := by
        rintro z rfl
        cases h : isK k ⟨(L.getD j zd).k, (L.getD j zd).o, (L.getD j zd).r, (L.getD j zd).e⟩
        · exact upW_no h
        · exact upW_yes h
      have hul : Hid (isK k ⟨(L.getD j zd).k, (L.getD j zd).o, (L.getD j zd).r, (L.getD j zd).e⟩ = true → (upW (isK k) L j).length < (wh (isK k) L).length) := fun h => upW_lt h hjL.out
      generalize (L.getD j zd).k = x0 at c0 hup hul
      generalize (L.getD j zd).o = x1 at c1 hup hul
      generalize (L.getD j zd).r = x2 at c2 hup hul
      generalize (L.getD j zd).e = x3 at c3 hup hul
      have HPr := hid hPr
      clear hPr
      have oB := below_one wr (.cells #[.int .i64 x0, .int .i64 x1, .int .i64 x2, .int .i64 x3] 64)
      have hM1 := (oB.cell (p := ⟨Bm, 0, none⟩) (World.block_lt_of_cell? wr ⟨Bm, 0, none⟩ hMr)).trans hMr
      have HK1 := hid ((oB.cell (p := ⟨Bk, 0, none⟩) (World.block_lt_of_cell? wr ⟨Bk, 0, none⟩ hKr)).trans hKr)
      have HB1 := hid oB
      clear oB hMr hKr
      gi_wp2_with fail
      refine ⟨trivial, (callsIn_wide.2 (meantK_any _ _ _ _ k _ _ HK1.out)).mono ?_⟩
      rintro e w2 ⟨rfl, hB⟩
      have HB2 := hid (bgo HB1.out hB)
      clear hB
      cases hz : isK k ⟨x0, x1, x2, x3⟩
      · have HU := hid (hup.out _ hz)
        gi_wp2
        refine ⟨fun _ h => (by cases h), ?_⟩
        gi_wp2
        go_roundw
        case rel => exact ⟨j + 1, by omega, by go_num, by rw [HU.out]; exact HJ.out _ _ _ HJs.out HB2.out, HKs.out.trans (Kc.of_below (HB2.out.mono HNr.out))⟩
        case measure => simp [intOf]; omega
      · have HU := hid (hup.out _ hz)
        obtain ⟨fn, tmps, assign, body, hy, hR⟩ := HY.out _ j w2 (HJ.out _ _ _ HJs.out HB2.out) (hul.out hz)
        gi_wp2
        refine hR.mono ?_
        rintro e W3 (⟨rfl, hJ3, hk3⟩ | ⟨rfl, hJx3⟩)
        · gi_wp2
          go_roundw
          case rel => exact ⟨j + 1, by omega, by go_num, by rw [HU.out]; exact hJ3, (HKs.out.trans (Kc.of_below (HB2.out.mono HNr.out))).trans hk3⟩
          case measure => simp [intOf]; omega
        · gi_wp2
          refine bodyPost_ret (results_none rfl _ _ _) rfl ?_
          exact ⟨⟨_, rfl⟩, .inr ⟨_, by have := upW_pre (isK k) L (j + 1) hjL.out; rw [HU.out] at this; exact this, hJx3⟩⟩
    · have hjj : j = N := by omega
      subst hjj
      have hA : upW (isK k) L j = wh (isK k) L := by rw [← HQ.out]; exact upW_all _ _
      have HA := hid hA
      clear hA
      gi_wp2
      go_end0
      exact ⟨⟨_, rfl⟩, .inl ⟨_, HA.out, HJs.out⟩⟩

set_option maxHeartbeats 1000000 in
theorem thoseK_none (n : Nat) (hn : 1 ≤ n) (l Bp Bm : Nat) (v : Option Addr) (J : List Nat → World → Prop) (W : World) (hBp : W.cell? ⟨Bp, 0, none⟩ = some (.pointer v)) (hv : NoP W (.pointer v)) (h0 : J [] W) :
    CallsIn Fence.wide n Tryz.prog 109 #[.func (.yield l) #[] #[], .pointer (some ⟨Bp, 0, none⟩), .pointer (some ⟨Bm, 0, none⟩)] W fun e W' => (∃ v, e = .returned v) ∧ J [] W' := by
  have HV := hid hv
  clear hv
  refine callsIn_of_wp Tryz.func109 rfl trivial ?_ rfl
  simp only [Tryz.ntmps109, List.size_toArray, List.length_cons, List.length_nil, Nat.reduceAdd, Nat.reduceSub, Array.replicate_succ, Array.replicate_zero, List.push_toArray, List.append_toArray, List.nil_append, List.cons_append]
  gi_wp2_with fail
  refine ⟨trivial, (callsIn_wide.2 (isNone_yes HV.out)).mono ?_⟩
  rintro e w' ⟨rfl, rfl⟩
  gi_wp2
  refine bodyPost_ret (results_none rfl _ _ _) rfl ?_
  exact ⟨⟨_, rfl⟩, h0⟩

/-- The value that those hands back, as the caller's law takes it. -/
theorem thoseK_stops (n : Nat) (hn : 1 ≤ n) (Bp Bm Bk c p b : Nat) (L : List Ds) (k : Int) (w : World) (hBp : w.cell? ⟨Bp, 0, none⟩ = some (.pointer (some ⟨p, 0, none⟩))) (hBm : w.cell? ⟨Bm, 0, none⟩ = some (.func (.func 110) #[] #[.pointer (some ⟨Bk, 0, none⟩)])) (hBk : w.cell? ⟨Bk, 0, none⟩ = some (.int .i64 k)) (hP : PP w p b L) (hne : Bm ≠ c ∧ Bk ≠ c ∧ p ≠ c ∧ b ≠ c) (encs : Nat → Array Value) (henc : ∀ x : Nat, encs x = #[.int .i64 (x : Nat)]) :
    SeqStopsK Fence.wide n Tryz.prog 109 #[.pointer (some ⟨Bp, 0, none⟩), .pointer (some ⟨Bm, 0, none⟩)] encs (Kc c w.heap.size) (fun ys => ys = wh (isK k) L) (fun pre => pre <+: wh (isK k) L) (wh (isK k) L).length w := fun l J Jx W hW hJ _ hY h0 => by
  have q1 := World.block_lt_of_cell? w ⟨Bm, 0, none⟩ hBm
  have q2 := World.block_lt_of_cell? w ⟨Bk, 0, none⟩ hBk
  refine thoseK_in n hn l Bp Bm Bk c w.heap.size p b L k J Jx (fun pre A B hA hB => hJ pre A B none hA (grown_of_below hB) (by simp)) (fun pre x W1 a b => ?_) W
    ((hW.cell (p := ⟨Bp, 0, none⟩) (World.block_lt_of_cell? w ⟨Bp, 0, none⟩ hBp)).trans hBp) ((hW.cell (p := ⟨Bm, 0, none⟩) q1).trans hBm) ((hW.cell (p := ⟨Bk, 0, none⟩) q2).trans hBk) (hP.below hW) ⟨⟨q1, q2, hP.lt⟩, hne⟩ hW.size h0
  rw [← henc x]
  exact hY pre x W1 a b

set_option maxHeartbeats 1000000 in
theorem thoseO_none (n : Nat) (hn : 1 ≤ n) (l Bp Bm : Nat) (v : Option Addr) (J : List Nat → World → Prop) (W : World) (hBp : W.cell? ⟨Bp, 0, none⟩ = some (.pointer v)) (hv : NoP W (.pointer v)) (h0 : J [] W) :
    CallsIn Fence.wide n Tryz.prog 109 #[.func (.yield l) #[] #[], .pointer (some ⟨Bp, 0, none⟩), .pointer (some ⟨Bm, 0, none⟩)] W fun e W' => (∃ v, e = .returned v) ∧ J [] W' := by
  have HV := hid hv
  clear hv
  refine callsIn_of_wp Tryz.func109 rfl trivial ?_ rfl
  simp only [Tryz.ntmps109, List.size_toArray, List.length_cons, List.length_nil, Nat.reduceAdd, Nat.reduceSub, Array.replicate_succ, Array.replicate_zero, List.push_toArray, List.append_toArray, List.nil_append, List.cons_append]
  gi_wp2_with fail
  refine ⟨trivial, (callsIn_wide.2 (isNone_yes HV.out)).mono ?_⟩
  rintro e w' ⟨rfl, rfl⟩
  gi_wp2
  refine bodyPost_ret (results_none rfl _ _ _) rfl ?_
  exact ⟨⟨_, rfl⟩, h0⟩

end Go.Proofs.YtpfmmlbakbhklaaGreatDoor.O
