/- The walk of ActDoes: for every number of words and every list of acts it returns true; nothing that lay before is changed. Condition: the tables stand in their variables. -/
import Derived.Test.YtoeopapnegjooaaDoorO
import Derived.Test.YtoeopapnegjooaaDoorQ
import Derived.Test.YtoeopapnegjooaaDoorKit
import Derived.Test.YtoeopapnegjooaaDoorR2
namespace Go.Proofs.YtoeopapnegjooaaDoor
open Go.RowKit

/-- The program's memory, the document's, and what the program told. -/
structure Dz (w0 w : World) (p b : Nat) (s : St) (p' b' : Nat) (t : St) (ga n : Nat) (f : Nat → Re) : Prop where
  m1 : Mem 62 w p b s
  m2 : Mem 45 w p' b' t
  res : IsRes w ga n f
  bel : Below w0.heap.size w0 w
  h3 : w0.heap.size ≤ p'
  h4 : w0.heap.size ≤ b'
  n1 : p ≠ p'
  n2 : p ≠ b'
  n3 : b ≠ p'
  n4 : b ≠ b'
  g1 : ga ≠ p'
  g2 : ga ≠ b'
theorem Dz.right {w0 w w' : World} {p b p' b' ga n : Nat} {s t u : St} {f : Nat → Re} (h : Dz w0 w p b s p' b' t ga n f) (k : Turns 45 p' b' w w' u) : Dz w0 w' p b s p' b' u ga n f :=
  ⟨h.m1.but k.2 h.n1 h.n2 h.n3 h.n4, k.1, h.res.keep (k.2.block _ h.res.lt h.g1 h.g2), h.bel.trans (k.2.below h.bel.size h.h3 h.h4), h.h3, h.h4, h.n1, h.n2, h.n3, h.n4, h.g1, h.g2⟩
theorem Dz.below {w0 w w' : World} {p b p' b' ga n : Nat} {s t : St} {f : Nat → Re} (h : Dz w0 w p b s p' b' t ga n f) (k : Below w.heap.size w w') : Dz w0 w' p b s p' b' t ga n f :=
  ⟨h.m1.below k, h.m2.below k, h.res.below k, bel_trans h.bel k, h.h3, h.h4, h.n1, h.n2, h.n3, h.n4, h.g1, h.g2⟩

/-- What a round loads. -/
abbrev Lo (w : World) (ga sb off j : Nat) (R : Re) (X : Ac) : Prop :=
  (w.cell? ⟨ga, j * 3, none⟩ = some (.int .u64 R.v) ∧ w.cell? ⟨ga, j * 3 + 1, none⟩ = some (.bool R.ok) ∧ w.cell? ⟨ga, j * 3 + 2, none⟩ = some (.int .i64 R.e)) ∧
  (w.cell? ⟨sb, off + j * 4, none⟩ = some (.int .i64 X.kd) ∧ w.cell? ⟨sb, off + j * 4 + 1, none⟩ = some (.int .i64 X.ad) ∧ w.cell? ⟨sb, off + j * 4 + 2, none⟩ = some (.int .u64 X.a) ∧ w.cell? ⟨sb, off + j * 4 + 3, none⟩ = some (.int .u64 X.b))
theorem Dz.lo {w0 w : World} {p b p' b' ga n : Nat} {s t : St} {f : Nat → Re} {l : List Ac} {sb off j : Nat} {R : Re} {X : Ac} (h : Dz w0 w p b s p' b' t ga n f) (hj : j < n) (hR : f j = R) (hX : l.getD j noAc = X)
    (hg : sb < w0.heap.size)
    (hc : w0.cell? ⟨sb, off + j * 4, none⟩ = some (.int .i64 (l.getD j noAc).kd) ∧ w0.cell? ⟨sb, off + j * 4 + 1, none⟩ = some (.int .i64 (l.getD j noAc).ad) ∧ w0.cell? ⟨sb, off + j * 4 + 2, none⟩ = some (.int .u64 (l.getD j noAc).a) ∧ w0.cell? ⟨sb, off + j * 4 + 3, none⟩ = some (.int .u64 (l.getD j noAc).b)) : Lo w ga sb off j R X := by
  have e : ∀ i, w.cell? ⟨sb, i, none⟩ = w0.cell? ⟨sb, i, none⟩ := fun i => h.bel.cell (p := ⟨sb, i, none⟩) hg
  have r := h.res.cells j hj
  rw [hR] at r
  rw [hX] at hc
  refine ⟨r, ?_⟩
  rw [e, e, e, e]
  exact hc

def stN (k : Nat) : St := ⟨List.replicate k 0, 0, 0⟩
theorem cntN (k m : Nat) : Cnt (stN k) m := ⟨Int.le_refl 0, by unfold stN; simp, Int.le_refl 0, by unfold stN; simp⟩
theorem wordsN (s : St) (k : Nat) (hk : 1 ≤ k) (h : s.xs.length = k) : wordsV s 0 k = s.xs := by
  unfold wordsV
  rw [if_pos (allB_yes.2 (by omega))]
  simp [cut, ← h]

set_option maxRecDepth 100000 in
set_option maxHeartbeats 1000000 in
theorem does_long (q : Option Addr) (n c : Nat) (kb : Nat) (hn : 100 < n) (w : World) (h : Std w) :
    Calls Tryd.prog 3 #[.int .u8 kb, .slice q n c] w fun e w' => e = .returned (.bool true) ∧ Below w.heap.size w w' := by
  have HS := Lib.hid h
  have hd : decide ((100 : Int) < n) = true := by simp; omega
  clear h hn
  go_enter Tryd.func3, Tryd.ntmps3
  go_wp2_with fail
  refine (known_yes _ HS.out).mono ?_
  rintro e w2 ⟨rfl, K⟩
  go_wp2
  go_ret
  exact ⟨rfl, K⟩

set_option maxRecDepth 100000 in
set_option maxHeartbeats 1000000 in
theorem does_short (q : Option Addr) (n c : Nat) (l : List Ac) (kb : Nat) (hkb : kb < 256) (hn : n ≤ 100) (hl : l.length = n) (w : World) (h : Std w) (hA : Acts w q l) :
    Calls Tryd.prog 3 #[.int .u8 kb, .slice q n c] w fun e w' => e = .returned (.bool true) ∧ Below w.heap.size w w' := by
  have HS := Lib.hid h
  have HA := Lib.hid hA
  have HL := Lib.hid hl
  have hd : decide ((100 : Int) < n) = false := by simp; omega
  have hsum : (1 : Int) + (kb : Int) = ((1 + kb : Nat) : Int) := by omega
  have HNw := Lib.hid (fun w => new_yes (1 + kb) w (by omega) (by omega))
  have HNr := Lib.hid (fun w => rnew_yes (1 + kb) w (by omega) (by omega))
  rw [← hsum] at HNw HNr
  have HKB := Lib.hid hkb
  clear h hA hl hsum
  go_enter Tryd.func3, Tryd.ntmps3
  go_wp2_with fail
  refine (HNw.out _).mono ?_
  rintro e w1 ⟨rfl, hM1, hB1⟩
  have HM1 : Hid (Mem 62 w1 (w.heap.size + 1) w.heap.size (stN (1 + kb))) := Lib.hid hM1
  have HB1 := Lib.hid hB1
  clear hM1 hB1
  go_wp2_with fail
  refine (HNr.out _).mono ?_
  rintro e w2 ⟨rfl, hM2, hB2⟩
  have HM2 : Hid (Mem 45 w2 (w1.heap.size + 1) w1.heap.size (stN (1 + kb))) := Lib.hid hM2
  have HM12 := Lib.hid (HM1.out.below hB2)
  have HB2 := Lib.hid (bel_trans HB1.out hB2)
  have u1 := HM1.out.lt
  have v1 := HB1.out.size
  have u2 := HM2.out.lt
  clear hM2 hB2 HM1 HB1
  go_wp2_with fail
  refine (run_ex (m := 0) HM12.out (cntN _ 0) (by decide) q n c l HL.out (by omega) (HA.out.script HB2.out (by omega) (by omega))).mono ?_
  rintro e w3 ⟨ga, rfl, hga, hRa, hT⟩
  have H3 : Dz w w3 (w.heap.size + 1) w.heap.size (runT (stN (1 + kb)) l) (w1.heap.size + 1) w1.heap.size (stN (1 + kb)) ga n (resF (stN (1 + kb)) l) :=
    ⟨hT.1, HM2.out.but hT.2 (by omega) (by omega) (by omega) (by omega), hRa, HB2.out.trans (hT.2.below HB2.out.size (by omega) (by omega)), by omega, by omega, by omega, by omega, by omega, by omega, by omega, by omega⟩
  have HH3 := Lib.hid H3
  clear H3 hT hRa HM2 HM12 HB2
  go_wp2
  go_loopw [10] (fun i wr => ∃ j : Nat, j ≤ n ∧ i = .int .i64 j ∧ Dz w wr (w.heap.size + 1) w.heap.size (runT (stN (1 + kb)) l) (w1.heap.size + 1) w1.heap.size (runT (stN (1 + kb)) (l.take j)) ga n (resF (stN (1 + kb)) l)) (fun i _ => n - (intOf i).toNat)
  case atStart => exact ⟨0, Nat.zero_le _, rfl, HH3.out⟩
  case round =>
    obtain ⟨j, hj, rfl, hD⟩ := hrel
    have HD := Lib.hid hD
    clear hD
    by_cases hlt : j < n
    · have hne : l ≠ [] := fun e => by have := HL.out; rw [e] at this; simp at this; omega
      obtain ⟨sb, off, hq, hg, hcells⟩ := HA.out hne
      have hcj := hcells j (by have := HL.out; omega)
      obtain ⟨X, hX⟩ : ∃ X, l.getD j noAc = X := ⟨_, rfl⟩
      obtain ⟨R, hR⟩ : ∃ R, resF (stN (1 + kb)) l j = R := ⟨_, rfl⟩
      have hR' : doR (runT (stN (1 + kb)) (l.take j)) X = R := by rw [← hR, ← hX]; rfl
      have hTk : runT (stN (1 + kb)) (l.take (j + 1)) = doT (runT (stN (1 + kb)) (l.take j)) X := by rw [← hX]; exact runT_take _ l j (by have := HL.out; omega)
      have hcn : Cnt (runT (stN (1 + kb)) (l.take j)) 200 := ((cntN (1 + kb) 0).runT (l.take j)).mono (by have := List.length_take_le j l; omega)
      have HTk := Lib.hid hTk
      have hS0 : Lo wr.drew ga sb off j R X := (HD.out.below (Below.refl _ _).drew).lo hlt hR hX hg hcj
      have HD0 := Lib.hid (HD.out.below (Below.refl _ _).drew)
      have HP := Lib.hid (fun (w' : World) (t : St) (_ : Lo w' ga sb off j R X) (hm : Hid (Dz w w' (w.heap.size + 1) w.heap.size (runT (stN (1 + kb)) l) (w1.heap.size + 1) w1.heap.size t ga n (resF (stN (1 + kb)) l))) =>
        (plain_at R w').mono (R' := fun e w'' => e = .returned (reV R) ∧ Hid (Dz w w'' (w.heap.size + 1) w.heap.size (runT (stN (1 + kb)) l) (w1.heap.size + 1) w1.heap.size t ga n (resF (stN (1 + kb)) l)) ∧ Lo w'' ga sb off j R X) (fun _ _ ⟨he, K⟩ => ⟨he, Lib.hid (hm.out.below K), (hm.out.below K).lo hlt hR hX hg hcj⟩))
      have HR := Lib.hid (fun (w' : World) (_ : Lo w' ga sb off j R X) (hm : Hid (Dz w w' (w.heap.size + 1) w.heap.size (runT (stN (1 + kb)) l) (w1.heap.size + 1) w1.heap.size (runT (stN (1 + kb)) (l.take j)) ga n (resF (stN (1 + kb)) l))) =>
        (rdo_at hm.out.m2 hcn (by decide) X).mono (R' := fun e w'' => e = .returned (reV R) ∧ Hid (Dz w w'' (w.heap.size + 1) w.heap.size (runT (stN (1 + kb)) l) (w1.heap.size + 1) w1.heap.size (doT (runT (stN (1 + kb)) (l.take j)) X) ga n (resF (stN (1 + kb)) l)) ∧ Lo w'' ga sb off j R X) (fun _ _ ⟨he, K⟩ => ⟨by rw [he, hR'], Lib.hid (hm.out.right K), (hm.out.right K).lo hlt hR hX hg hcj⟩))
      have s0 : Lo wr ga sb off j R X := HD.out.lo hlt hR hX hg hcj
      clear hcells hcj hX hR hR' hTk hcn hne
      subst hq
      obtain ⟨xk, xd, xa, xb⟩ := X
      obtain ⟨rv, ro, re⟩ := R
      simp only [Lo] at hS0 HP HR s0
      obtain ⟨⟨r0, r1, r2⟩, c0, c1, c2, c3⟩ := s0
      go_wp2_with fail
      go_region_held3 (fun w' => (w'.cell? ⟨ga, j * 3, none⟩ = some (.int .u64 rv) ∧ w'.cell? ⟨ga, j * 3 + 1, none⟩ = some (.bool ro) ∧ w'.cell? ⟨ga, j * 3 + 2, none⟩ = some (.int .i64 re)) ∧ (w'.cell? ⟨sb, off + j * 4, none⟩ = some (.int .i64 xk) ∧ w'.cell? ⟨sb, off + j * 4 + 1, none⟩ = some (.int .i64 xd) ∧ w'.cell? ⟨sb, off + j * 4 + 2, none⟩ = some (.int .u64 xa) ∧ w'.cell? ⟨sb, off + j * 4 + 3, none⟩ = some (.int .u64 xb))) (first | exact hS0 | assumption)
        (first
          | (go_at_call 13; refine (HP.out _ _ (by assumption) (by assumption)).mono ?_; rintro e w' ⟨rfl, hm', hw'⟩)
          | (go_at_call 14; refine (HR.out _ (by assumption) (by assumption)).mono ?_; rintro e w' ⟨rfl, hm', hw'⟩))
      all_goals go_wp2
      all_goals refine ⟨⟨j + 1, by omega, by go_num, ?_⟩, by simp [intOf]; omega⟩
      all_goals rw [HTk.out]
      all_goals exact Hid.out (by assumption)
    · have ej : l.take j = l := List.take_of_length_le (by have := HL.out; omega)
      rw [ej] at HD
      have hlen : (runT (stN (1 + kb)) l).xs.length = 1 + kb := by rw [runT_len]; simp [stN]
      have sm : ∀ w', Dz w w' (w.heap.size + 1) w.heap.size (runT (stN (1 + kb)) l) (w1.heap.size + 1) w1.heap.size (runT (stN (1 + kb)) l) ga n (resF (stN (1 + kb)) l) → w'.cell? ⟨w1.heap.size + 1, 0, none⟩ = some (.slice (some ⟨w1.heap.size, 0, none⟩) (1 + kb) (1 + kb)) := fun w' h => by
        have := h.m2.cells.1
        rw [hlen] at this
        exact this
      have hwo : wordsV (runT (stN (1 + kb)) l) 0 (1 + kb) = (runT (stN (1 + kb)) l).xs := by
        have := wordsN (runT (stN (1 + kb)) l) (1 + kb) (by omega) hlen
        rw [← this]
        congr 1
      have hwz : IntKind.i64.wrap (1 + IntKind.i64.wrap (kb : Int)) = 1 + kb := by rw [IntKind.wrap_i64, IntKind.wrap_i64]; omega
      have HW := Lib.hid (fun (w' : World) (_ : w'.cell? ⟨w1.heap.size + 1, 0, none⟩ = some (.slice (some ⟨w1.heap.size, 0, none⟩) (1 + kb) (1 + kb))) (hm : Hid (Dz w w' (w.heap.size + 1) w.heap.size (runT (stN (1 + kb)) l) (w1.heap.size + 1) w1.heap.size (runT (stN (1 + kb)) l) ga n (resF (stN (1 + kb)) l))) =>
        (words_any hm.out.m1 0 (IntKind.i64.wrap (1 + IntKind.i64.wrap (kb : Int))) (by rw [hwz]; omega)).mono (R' := fun e w'' => ∃ v, e = .returned v ∧ Hid (Lies w'' v (runT (stN (1 + kb)) l).xs) ∧ Hid (Dz w w'' (w.heap.size + 1) w.heap.size (runT (stN (1 + kb)) l) (w1.heap.size + 1) w1.heap.size (runT (stN (1 + kb)) l) ga n (resF (stN (1 + kb)) l)) ∧ w''.cell? ⟨w1.heap.size + 1, 0, none⟩ = some (.slice (some ⟨w1.heap.size, 0, none⟩) (1 + kb) (1 + kb))) (fun _ _ ⟨v, he, hL, K⟩ => ⟨v, he, Lib.hid (by rw [← hwo]; rw [hwz] at hL; exact hL), Lib.hid (hm.out.below K), sm _ (hm.out.below K)⟩))
      have HE := Lib.hid (fun (w' : World) (v : Value) (_ : w'.cell? ⟨w1.heap.size + 1, 0, none⟩ = some (.slice (some ⟨w1.heap.size, 0, none⟩) (1 + kb) (1 + kb))) (hm : Hid (Dz w w' (w.heap.size + 1) w.heap.size (runT (stN (1 + kb)) l) (w1.heap.size + 1) w1.heap.size (runT (stN (1 + kb)) l) ga n (resF (stN (1 + kb)) l))) (hL : Hid (Lies w' v (runT (stN (1 + kb)) l).xs)) =>
        (same_any (v := .slice (some ⟨w1.heap.size, 0, none⟩) (1 + kb) (1 + kb)) hL.out (hm.out.m2.row.lies hlen (by omega))).mono (R' := fun e w'' => e = .returned (.bool true) ∧ Hid (Dz w w'' (w.heap.size + 1) w.heap.size (runT (stN (1 + kb)) l) (w1.heap.size + 1) w1.heap.size (runT (stN (1 + kb)) l) ga n (resF (stN (1 + kb)) l)) ∧ w''.cell? ⟨w1.heap.size + 1, 0, none⟩ = some (.slice (some ⟨w1.heap.size, 0, none⟩) (1 + kb) (1 + kb))) (fun _ _ ⟨he, K⟩ => ⟨he, Lib.hid (hm.out.below K), sm _ (hm.out.below K)⟩))
      have HK := Lib.hid (fun (w' : World) (_ : w'.cell? ⟨w1.heap.size + 1, 0, none⟩ = some (.slice (some ⟨w1.heap.size, 0, none⟩) (1 + kb) (1 + kb))) (hm : Hid (Dz w w' (w.heap.size + 1) w.heap.size (runT (stN (1 + kb)) l) (w1.heap.size + 1) w1.heap.size (runT (stN (1 + kb)) l) ga n (resF (stN (1 + kb)) l))) =>
        (known_yes w' (HS.out.below hm.out.bel)).mono (R' := fun e w'' => e = .returned (.bool true) ∧ Hid (Dz w w'' (w.heap.size + 1) w.heap.size (runT (stN (1 + kb)) l) (w1.heap.size + 1) w1.heap.size (runT (stN (1 + kb)) l) ga n (resF (stN (1 + kb)) l)) ∧ w''.cell? ⟨w1.heap.size + 1, 0, none⟩ = some (.slice (some ⟨w1.heap.size, 0, none⟩) (1 + kb) (1 + kb))) (fun _ _ ⟨he, K⟩ => ⟨he, Lib.hid (hm.out.below K), sm _ (hm.out.below K)⟩))
      have hS0 : wr.drew.cell? ⟨w1.heap.size + 1, 0, none⟩ = some (.slice (some ⟨w1.heap.size, 0, none⟩) (1 + kb) (1 + kb)) := sm _ (HD.out.below (Below.refl _ _).drew)
      have HD0 := Lib.hid (HD.out.below (Below.refl _ _).drew)
      have s0 := sm _ HD.out
      clear sm hwo hlen ej hwz
      go_wp2_with fail
      go_region_held3 (fun w' => w'.cell? ⟨w1.heap.size + 1, 0, none⟩ = some (.slice (some ⟨w1.heap.size, 0, none⟩) (1 + kb) (1 + kb))) (first | exact hS0 | assumption)
        (first
          | (go_at_call 16; refine (HW.out _ (by assumption) (by assumption)).mono ?_; rintro e w' ⟨v, rfl, hL', hm', hw'⟩)
          | (go_at_call 15; refine (HE.out _ _ (by assumption) (by assumption) (by assumption)).mono ?_; rintro e w' ⟨rfl, hm', hw'⟩)
          | (go_at_call 9; refine (HK.out _ (by assumption) (by assumption)).mono ?_; rintro e w' ⟨rfl, hm', hw'⟩))
      all_goals go_wp2
      all_goals go_ret
      all_goals exact ⟨rfl, (show Hid (Dz w _ (w.heap.size + 1) w.heap.size (runT (stN (1 + kb)) l) (w1.heap.size + 1) w1.heap.size (runT (stN (1 + kb)) l) ga n (resF (stN (1 + kb)) l)) by assumption).out.bel⟩

theorem does_walk (q : Option Addr) (n c : Nat) (l : List Ac) (kb : Nat) (hkb : kb < 256) (hl : l.length = n) (w : World) (h : Std w) (hA : Acts w q l) :
    Calls Tryd.prog 3 #[.int .u8 kb, .slice q n c] w fun e w' => e = .returned (.bool true) ∧ Below w.heap.size w w' := by
  by_cases hn : 100 < n
  · exact does_long q n c kb hn w h
  · exact does_short q n c l kb hkb (by omega) hl w h hA
end Go.Proofs.YtoeopapnegjooaaDoor
