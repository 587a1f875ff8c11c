/- The iterator way: what it hands on, whatever each round does with the words and frames, as long as they lie in memory behind it. Conditions: the words and frames lie in memory. -/
import Derived.Test.YtpfmmlbakbhklaaGreatDoorN5a
namespace Go.Proofs.YtpfmmlbakbhklaaGreatDoor
open Go.RowKit Go.Shelf
attribute [local go_sem] Oper.semAt_some

theorem lvIn_of {q : Nat} {W : World} {fr : Int} {v : Nat} (h : W.heap[q]? = some (.cells #[.int .i64 fr, .int .i64 v] 93 (0, 0))) : lvIn q W = v := by
  unfold lvIn
  rw [P.cell_of (i := 1) h rfl]
  rfl
set_option maxRecDepth 100000 in
set_option maxHeartbeats 4000000 in
theorem way1_in (n : Nat) (hn : 1 ≤ n) (u : Si) (t Bt Bl Bp : Nat) (o root pg : Int) (lo : Nat) (hlo : lo ≤ 3) (I : Wy → World → Prop) (E : Int × Nat → Sm → Sm) (s0 : Wy) (hs0 : s0.last = none)
    (hI : ∀ s A, I s A → Rd u t Bt Bl Bp o root pg lo A s.sm)
    (l : Nat) (J : Wy → World → Prop) (W : World) (n₀ : Nat) (hn₀ : n₀ ≤ W.heap.size) (hJ : ∀ s A B, J s A → AbT n₀ 93 A B → J s B) (hJI : ∀ s A, J s A → I s A)
    (hY : ∀ s x A, J s A → OkW root pg lo s x → YieldAt Fence.wide (n - 1) Tryz.prog l #[.agg (stX pg x)] A fun e B => e = .returned (.bool true) ∧ J ⟨some x.1, E x.1 s.sm⟩ B ∧ RkT 93 A B)
    (h0 : J s0 W) :
    CallsIn Fence.wide n Tryz.prog 135 #[.func (.yield l) #[] #[], .pointer (some ⟨Bt, 0, none⟩), .pointer (some ⟨Bl, 0, none⟩), .pointer (some ⟨Bp, 0, none⟩)] W fun e B => (∃ v, e = .returned v) ∧ ∃ s, FinW pg lo s ∧ J s B := by
  have HY := hid hY
  have HN0 := hid hn₀
  have HJ := hid hJ
  have HJI := hid hJI
  have HI := hid hI
  have HL := hid hlo
  have HJ0 := hid h0
  have HR0 := hid (hI _ _ (hJI _ _ h0))
  have HS := hid hs0
  have q1 := HR0.out.bt
  have HT := hid (top_at HR0.out.tb)
  clear hn₀ hY hJ hJI hI h0 hs0 hlo
  refine callsIn_of_wp Tryz.func135 rfl trivial ?_ rfl
  simp only [Tryz.ntmps135, List.size_toArray, List.length_cons, List.length_nil, Nat.reduceAdd, Nat.reduceSub, Array.replicate_succ, Array.replicate_zero, List.push_toArray, List.append_toArray, List.nil_append, List.cons_append]
  gi_wp2_with fail
  refine ⟨trivial, (callsIn_wide.2 HT.out).mono ?_⟩
  rintro e w1 ⟨rfl, hB1⟩
  have HJ1 := hid (HJ.out _ _ _ HJ0.out (.of_below hB1))
  have HB1 := hid hB1
  clear hB1 q1
  have HN := hid (heap_alloc_new w1 (.cells #[.int .i64 root, .int .i64 3] 93))
  have HA := hid (below_alloc w1 (.cells #[.int .i64 root, .int .i64 3] 93))
  gi_wp2
  gi_loopw [6] (fun p wr => ∃ (s : Wy) (fr : Int) (v : Nat) (b : Bool), p = .bool b ∧ J s wr ∧ wr.heap[w1.heap.size]? = some (.cells #[.int .i64 fr, .int .i64 v] 93 (0, 0)) ∧ v ≤ 3 ∧ (b = true → lo ≤ v → Nxt root pg lo s (fr, v)) ∧ (b = false ∨ v < lo → FinW pg lo s))
    (fun p wr => match p with | .bool true => 1 + lvIn w1.heap.size wr | _ => 0)
  case atStart =>
    refine ⟨s0, root, 3, true, rfl, HJ.out _ _ _ HJ1.out (.of_below HA.out), HN.out, by omega, fun _ _ => ?_, fun h => ?_⟩
    · unfold Nxt; rw [HS.out]
    · have := HL.out; rcases h with h | h
      · cases h
      · omega
  case round =>
    obtain ⟨s, fr, v, b, rfl, hJs, hq, hv, hnx, hfin⟩ := hrel
    have HJs := hid hJs
    have HQ := hid hq
    have HLV := hid (lvIn_of hq)
    have HV := hid hv
    have HX := hid hnx
    have HF := hid hfin
    have HR := hid (HI.out _ _ (HJI.out _ _ hJs))
    have q0 := P.cell_of (i := 0) hq rfl
    have q1 := P.cell_of (i := 1) hq rfl
    have r1 := HR.out.bl
    clear hJs hq hnx hfin
    cases b
    · gi_wp2
      go_end0
      exact ⟨⟨_, rfl⟩, s, HF.out (.inl (by trivial)), HJs.out⟩
    · by_cases hlv : lo ≤ v
      · have r0 := HR.out.bt
        have r2 := HR.out.bp
        obtain ⟨k, hwo⟩ := HR.out.wo
        have HST := hid (stop_at HR.out.tb hwo fr pg v)
        have hok : OkW root pg lo s ((fr, v), en s.sm.xs pg fr v) := ⟨HX.out rfl hlv, rfl⟩
        have HOK := hid hok
        have hlv' : (lo : Int) ≤ v := by omega
        clear hwo hok
        generalize hea : en s.sm.xs pg fr v = e at HST HOK
        obtain ⟨ep, er, el, ef⟩ := e
        have HY1 := hid (fun A (hA : J s A) => HY.out s ((fr, v), ⟨ep, er, el, ef⟩) A hA HOK.out)
        unfold stX at HY1
        simp only at HY1 HST
        generalize haa : P.at' fr pg v = a at HY1 HST
        clear haa hea
        gi_wp2_with fail
        refine ⟨trivial, (callsIn_wide.2 HST.out).mono ?_⟩
        rintro e w2 ⟨rfl, hB2⟩
        have HJ2 := hid (HJ.out _ _ _ HJs.out (.of_below hB2))
        have HQ2 := hid ((hB2.block _ (lt_of_block HQ.out)).trans HQ.out)
        obtain ⟨fn, tmps, assign, body, hy, hR⟩ := HY1.out w2 HJ2.out
        clear hB2 q0 q1 r0 r1 r2
        gi_wp2
        refine hR.mono ?_
        rintro e W3 ⟨rfl, hJ3, hK3⟩
        have HJ3 := hid hJ3
        have HQ3 := hid (hK3 _ _ HQ2.out)
        have HR3 := hid (HI.out _ _ (HJI.out _ _ hJ3))
        clear hJ3 hK3 hy HY1 HJ2 HQ2 HST HOK HR HJs HQ
        obtain ⟨k3, hwo3⟩ := HR3.out.wo
        have hB3 : Below W3.heap.size W3 W3.drew := (Below.refl _ _).drew
        have hST3 := stop_at (HR3.out.tb.below hB3) (hwo3.below hB3) fr pg v
        have q0 : W3.drew.cell? ⟨w1.heap.size, 0, none⟩ = some (.int .i64 fr) := P.cell_of (i := 0) HQ3.out rfl
        have q1 : W3.drew.cell? ⟨w1.heap.size, 1, none⟩ = some (.int .i64 v) := P.cell_of (i := 1) HQ3.out rfl
        have r0 : W3.drew.cell? ⟨Bt, 0, none⟩ = some (.pointer (some ⟨t, 0, none⟩)) := HR3.out.bt
        have r2 : W3.drew.cell? ⟨Bp, 0, none⟩ = some (.int .i64 pg) := HR3.out.bp
        have hS : ∀ w', Below W3.drew.heap.size W3.drew w' → w'.cell? ⟨w1.heap.size, 0, none⟩ = some (.int .i64 fr) ∧ w'.cell? ⟨w1.heap.size, 1, none⟩ = some (.int .i64 v) ∧ w'.cell? ⟨Bt, 0, none⟩ = some (.pointer (some ⟨t, 0, none⟩)) ∧ w'.cell? ⟨Bp, 0, none⟩ = some (.int .i64 pg) := fun w' b =>
          ⟨(b.cell (p := ⟨w1.heap.size, 0, none⟩) (lt_of_block HQ3.out)).trans q0, (b.cell (p := ⟨w1.heap.size, 1, none⟩) (lt_of_block HQ3.out)).trans q1, (b.cell (p := ⟨Bt, 0, none⟩) (World.block_lt_of_cell? _ ⟨Bt, 0, none⟩ r0)).trans r0, (b.cell (p := ⟨Bp, 0, none⟩) (World.block_lt_of_cell? _ ⟨Bp, 0, none⟩ r2)).trans r2⟩
        have HS3 := hid hS
        have HST3 := hid hST3
        simp only at HST3
        clear hB3 hST3 hwo3 hS
        gi_wp2
        refine wpIn_wide.2 ?_
        obtain ⟨nf, nv, nb, hNX, hnf⟩ := next_some fr v (en (E (fr, v) s.sm).xs pg fr v) HV.out
        have HNX := hid hNX
        have HNF := hid hnf
        generalize hea : en (E (fr, v) s.sm).xs pg fr v = e at HST3 HNX
        have HEA := hid hea
        obtain ⟨ep, er, el, ef⟩ := e
        unfold P.eV at HNX
        simp only at HST3 HNX
        generalize P.at' fr pg v = a2 at HST3
        change Hid (Calls Tryz.prog 136 _ _ fun r w' => r = .returned (.agg #[.int .i64 fr, .int .i64 v, .int .i64 a2, .bool ep, .int .i64 er, .bool el, .int .i64 ef]) ∧ Below _ _ w') at HST3
        have HQ3' : Hid (W3.drew.heap[w1.heap.size]? = some (.cells #[.int .i64 fr, .int .i64 v] 93 (0, 0))) := HQ3.out
        have hnb : Hid (nb = nxB (en (E (fr, v) s.sm).xs pg fr v) v ∧ (nb = true → nf = (en (E (fr, v) s.sm).xs pg fr v).f ∧ nv = v - 1) ∧ nv ≤ 3) := HNF.out
        clear hnf hNX hea HNF
        refine reg3 q0 q1 r0 r2 HQ3' HS3 HST3 HNX (fun _ _ _ _ _ h => h) (fun u23 u24 u25 u26 u27 u28 u29 u30 u31 u32 w5 hB5 => ?_)
        have HB5 := hid hB5
        clear hB5 q0 q1 r0 r2
        gi_wp2
        have hq5 := put2 (P.stay HB5.out HQ3'.out) (.int .i64 nf) (.int .i64 nv)
        obtain ⟨e1, e2, e3⟩ := hnb.out
        rw [nxB_nat] at e1
        have hb5 : AbT n₀ 93 W3 w5 := .of_below ((Below.refl W3.heap.size W3).drew.trans HB5.out)
        refine ⟨⟨⟨some (fr, v), E (fr, v) s.sm⟩, nf, nv, nb, rfl, HJ.out _ _ _ HJ3.out ((hb5.setCell HQ3.out (Nat.le_trans HN0.out HB1.out.size) _).setCell HQ3.out (Nat.le_trans HN0.out HB1.out.size) _), hq5, e3, fun h1 h2 => ?_, fun h => ?_⟩, ?_⟩
        · obtain ⟨f1, f2⟩ := e2 h1
          rw [h1] at e1
          have e1 := e1.symm
          simp only [Bool.and_eq_true, decide_eq_true_eq] at e1
          show goOn (E (fr, v) s.sm).xs pg lo (fr, v) = true ∧ (nf, nv) = ((en (E (fr, v) s.sm).xs pg fr v).f, v - 1)
          refine ⟨?_, by rw [f1, f2]⟩
          unfold goOn
          rw [e1.2, Bool.and_true, decide_eq_true_eq]
          show lo < v
          omega
        · refine ⟨(fr, v), rfl, ?_⟩
          unfold goOn
          cases hbn : nb
          · rw [hbn] at e1
            cases htb : P.tb (en (E (fr, v) s.sm).xs pg fr v)
            · simp
            · rw [htb, Bool.and_true] at e1
              have := of_decide_eq_false e1.symm
              have : ¬ lo < v := by omega
              simp [this]
          · obtain ⟨f1, f2⟩ := e2 hbn
            rcases h with h | h
            · rw [hbn] at h; cases h
            · have : ¬ lo < v := by omega
              simp [this]
        · rw [lvIn_of hq5, HLV.out]
          cases hbn : nb
          · show 0 < 1 + v
            omega
          · obtain ⟨f1, f2⟩ := e2 hbn
            rw [hbn] at e1
            have e1 := e1.symm
            simp only [Bool.and_eq_true, decide_eq_true_eq] at e1
            show 1 + nv < 1 + v
            omega
      · have hlv' : ¬ (lo : Int) ≤ v := by omega
        gi_wp2
        go_end0
        exact ⟨⟨_, rfl⟩, s, HF.out (.inr (by omega)), HJs.out⟩
end Go.Proofs.YtpfmmlbakbhklaaGreatDoor
