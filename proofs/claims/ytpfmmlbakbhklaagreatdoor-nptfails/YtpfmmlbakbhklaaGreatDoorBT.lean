/- What a round of NptFails tests of the words behind a call with an error holds: one region. No condition. What a round of NptFails tests of the counts of frames behind a call holds: one region. No condition. What a round of NptFails tests of each frame behind a call holds: one loop. No condition. -/
import Derived.Test.YtpfmmlbakbhklaaGreatDoorBS
import Derived.Deep.CutRange
import Derived.Deep.CutBlock
import Derived.Deep.RegionHeld3
import Derived.BigQuiet
namespace Go.Proofs.YtpfmmlbakbhklaaGreatDoor
open Go.RowKit
set_option maxRecDepth 100000 in
set_option maxHeartbeats 8000000 in
theorem f25 {Q : Exit → Act → World → Prop} {w0 w : World} {d : Sd} {s s' : Sm} {k' pm bm qp gp z : Nat} {kd wh pg fm rt e : Int} {c0 c1 c2 c3 c4 c6 c7 c8 c9 c11 c13 c14 c15 c16 c17 c18 c19 c20 c21 c22 c23 c24 c25 c26 c27 c28 c29 c30 c31 c32 c33 c34 c35 c36 c37 c38 c39 c40 c41 c42 c43 c44 c45 c46 c47 c48 c49 c50 c51 c52 c53 c54 c55 c56 c57 c58 c59 c60 c61 c62 c63 c64 c65 c66 c67 c68 c69 c70 c71 c72 c73 c74 c75 c76 c77 c78 c79 c80 c81 c82 c83 c84 c85 c86 c87 c88 c89 c90 c91 c92 c93 c94 c95 c96 c97 c98 c99 c100 c101 c102 c103 c104 c105 c106 c107 c108 c109 c110 c111 c112 c113 c114 c115 c116 c117 c118 c119 c120 c121 c122 c123 c124 c125 c126 c127 c128 c129 c130 c131 c132 c133 c134 c135 c136 c137 c138 c139 c140 c141 c142 c143 c144 c145 c146 c147 c148 c149 c150 c151 c152 c153 c154 c155 c156 c157 c158 c159 c160 c161 c162 c163 c164 c165 c166 c167 c168 c169 c170 c171 c172 c173 c174 c175 c176 c177 c178 c179 c180 c181 c182 c183 c184 c185 c186 c187 c188 : Value} (hQ : ∀ c (a : Act) (d : Tmp) (v : Value) w, Q (.panic c) (a.put (some d) v) w → Q (.panic c) a w)
    (hx : Rw w0 d s s' k' ⟨pm, bm, qp, gp, z, ⟨kd, wh, pg, fm, rt⟩⟩ w) (ha : Ask kd e s s')
    (hK : ∀ (u115 u116 u117 u118 u119 u120 u121 u122 u123 u124 u125 u126 u127 u128 u129 u130 u131 u132 u133 : Value) (w' : World), Rw w0 d s s' k' ⟨pm, bm, qp, gp, z, ⟨kd, wh, pg, fm, rt⟩⟩ w' → Q .normal ⟨#[c0, c1, c2, c3, c4, .pointer (some ⟨d.g, 0, none⟩), c6, c7, c8, c9, .pointer (some ⟨pm, 0, none⟩), c11, .int .i64 e, c13, c14, c15, c16, c17, c18, c19, c20, c21, c22, c23, c24, c25, c26, c27, c28, c29, c30, c31, c32, c33, c34, c35, c36, c37, c38, c39, c40, c41, c42, c43, c44, c45, c46, c47, c48, c49, c50, c51, c52, c53, c54, c55, c56, c57, c58, c59, c60, c61, c62, c63, c64, c65, c66, c67, c68, c69, c70, c71, c72, c73, c74, c75, c76, c77, c78, c79, c80, c81, c82, c83, c84, c85, c86, c87, c88, c89, c90, c91, c92, c93, c94, c95, c96, c97, c98, c99, c100, c101, c102, c103, c104, c105, c106, c107, c108, c109, c110, c111, c112, c113, c114, u115, u116, u117, u118, u119, u120, u121, u122, u123, u124, u125, u126, u127, u128, u129, u130, u131, u132, u133, .bool false, c135, c136, c137, c138, c139, c140, c141, c142, c143, c144, c145, c146, c147, c148, c149, c150, c151, c152, c153, c154, c155, c156, c157, c158, c159, c160, c161, c162, c163, c164, c165, c166, c167, c168, c169, c170, c171, c172, c173, c174, c175, c176, c177, c178, c179, c180, c181, c182, c183, c184, c185, c186, c187, c188], []⟩ w') :
    Code.wp Tryz.prog ((Tryz.f5.body.bind (pickR 25)).getD .skip) Q ⟨#[c0, c1, c2, c3, c4, .pointer (some ⟨d.g, 0, none⟩), c6, c7, c8, c9, .pointer (some ⟨pm, 0, none⟩), c11, .int .i64 e, c13, c14, c15, c16, c17, c18, c19, c20, c21, c22, c23, c24, c25, c26, c27, c28, c29, c30, c31, c32, c33, c34, c35, c36, c37, c38, c39, c40, c41, c42, c43, c44, c45, c46, c47, c48, c49, c50, c51, c52, c53, c54, c55, c56, c57, c58, c59, c60, c61, c62, c63, c64, c65, c66, c67, c68, c69, c70, c71, c72, c73, c74, c75, c76, c77, c78, c79, c80, c81, c82, c83, c84, c85, c86, c87, c88, c89, c90, c91, c92, c93, c94, c95, c96, c97, c98, c99, c100, c101, c102, c103, c104, c105, c106, c107, c108, c109, c110, c111, c112, c113, c114, c115, c116, c117, c118, c119, c120, c121, c122, c123, c124, c125, c126, c127, c128, c129, c130, c131, c132, c133, c134, c135, c136, c137, c138, c139, c140, c141, c142, c143, c144, c145, c146, c147, c148, c149, c150, c151, c152, c153, c154, c155, c156, c157, c158, c159, c160, c161, c162, c163, c164, c165, c166, c167, c168, c169, c170, c171, c172, c173, c174, c175, c176, c177, c178, c179, c180, c181, c182, c183, c184, c185, c186, c187, c188], []⟩ w := by
  have HK : Hid (∀ (u115 u116 u117 u118 u119 u120 u121 u122 u123 u124 u125 u126 u127 u128 u129 u130 u131 u132 u133 : Value) (w' : World), Rw w0 d s s' k' ⟨pm, bm, qp, gp, z, ⟨kd, wh, pg, fm, rt⟩⟩ w' → Q .normal ⟨#[c0, c1, c2, c3, c4, .pointer (some ⟨d.g, 0, none⟩), c6, c7, c8, c9, .pointer (some ⟨pm, 0, none⟩), c11, .int .i64 e, c13, c14, c15, c16, c17, c18, c19, c20, c21, c22, c23, c24, c25, c26, c27, c28, c29, c30, c31, c32, c33, c34, c35, c36, c37, c38, c39, c40, c41, c42, c43, c44, c45, c46, c47, c48, c49, c50, c51, c52, c53, c54, c55, c56, c57, c58, c59, c60, c61, c62, c63, c64, c65, c66, c67, c68, c69, c70, c71, c72, c73, c74, c75, c76, c77, c78, c79, c80, c81, c82, c83, c84, c85, c86, c87, c88, c89, c90, c91, c92, c93, c94, c95, c96, c97, c98, c99, c100, c101, c102, c103, c104, c105, c106, c107, c108, c109, c110, c111, c112, c113, c114, u115, u116, u117, u118, u119, u120, u121, u122, u123, u124, u125, u126, u127, u128, u129, u130, u131, u132, u133, .bool false, c135, c136, c137, c138, c139, c140, c141, c142, c143, c144, c145, c146, c147, c148, c149, c150, c151, c152, c153, c154, c155, c156, c157, c158, c159, c160, c161, c162, c163, c164, c165, c166, c167, c168, c169, c170, c171, c172, c173, c174, c175, c176, c177, c178, c179, c180, c181, c182, c183, c184, c185, c186, c187, c188], []⟩ w') := hid hK
  have HQ : Hid (∀ c (a : Act) (d : Tmp) (v : Value) w, Q (.panic c) (a.put (some d) v) w → Q (.panic c) a w) := hid hQ
  have HRX := hid hx
  have HAS := hid ha
  clear hK hx ha hQ
  conv => arg 2; whnf
  by_cases he : e = 0
  · subst he
    have HX := HRX.out
    have hS0 : w.drew.cell? ⟨d.g, 0, none⟩ = some (.pointer (some ⟨d.u.mp, 0, none⟩)) := P.cell_of (i := 0) (HX.below (Below.refl _ _).drew).fv.blk rfl
    clear HRX HAS
    refine wp_region_held_drew (S := fun w' => w'.cell? ⟨d.g, 0, none⟩ = some (.pointer (some ⟨d.u.mp, 0, none⟩))) (by kernel_rfl) hS0 (fun hHeld => ?_)
    refine wpAnyH_take (i := 0) (v := ?v0c) at5_0 (by kernel_rfl) (by kernel_rfl) (by kernel_rfl) (fun _ _ _ h => HQ.out _ _ _ _ _ h) (Or.inl ⟨by rfl, ?y0c⟩) (by assumption) ?r0c
    case y0c => (intro w hSw; (try dsimp only at hSw); go_simp; (try with_reducible rfl))
    (try simp only [Act.put, List.setIfInBounds_toArray, List.set_cons_zero, List.set_cons_succ])
    refine wpAnyH_take (i := 1) (v := ?v1c) at5_1 (by kernel_rfl) (by kernel_rfl) (by kernel_rfl) (fun _ _ _ h => HQ.out _ _ _ _ _ h) (Or.inl ⟨by rfl, ?y1c⟩) (by assumption) ?r1c
    case y1c => (intro w hSw; (try dsimp only at hSw); go_simp; (try with_reducible rfl))
    (try simp only [Act.put, List.setIfInBounds_toArray, List.set_cons_zero, List.set_cons_succ])
    refine wpAnyH_take (i := 2) (v := ?v2c) at5_2 (by kernel_rfl) (by kernel_rfl) (by kernel_rfl) (fun _ _ _ h => HQ.out _ _ _ _ _ h) (Or.inl ⟨by rfl, ?y2c⟩) (by assumption) ?r2c
    case y2c => (intro w hSw; (try dsimp only at hSw); go_simp; (try with_reducible rfl))
    (try simp only [Act.put, List.setIfInBounds_toArray, List.set_cons_zero, List.set_cons_succ])
    refine wpAnyH_take (i := 3) (v := undef) at5_3 (by kernel_rfl) (by kernel_rfl) (by kernel_rfl) (fun _ _ _ h => HQ.out _ _ _ _ _ h) (Or.inr ⟨by rfl, rfl⟩) (by assumption) ?_
    (try simp only [Act.put, List.setIfInBounds_toArray, List.set_cons_zero, List.set_cons_succ])
    refine wpAnyH_take (i := 4) (v := undef) at5_4 (by kernel_rfl) (by kernel_rfl) (by kernel_rfl) (fun _ _ _ h => HQ.out _ _ _ _ _ h) (Or.inr ⟨by rfl, rfl⟩) (by assumption) ?_
    (try simp only [Act.put, List.setIfInBounds_toArray, List.set_cons_zero, List.set_cons_succ])
    refine wpAnyH_take (i := 5) (v := undef) at5_5 (by kernel_rfl) (by kernel_rfl) (by kernel_rfl) (fun _ _ _ h => HQ.out _ _ _ _ _ h) (Or.inr ⟨by rfl, rfl⟩) (by assumption) ?_
    (try simp only [Act.put, List.setIfInBounds_toArray, List.set_cons_zero, List.set_cons_succ])
    refine wpAnyH_take (i := 6) (v := undef) at5_6 (by kernel_rfl) (by kernel_rfl) (by kernel_rfl) (fun _ _ _ h => HQ.out _ _ _ _ _ h) (Or.inr ⟨by rfl, rfl⟩) (by assumption) ?_
    (try simp only [Act.put, List.setIfInBounds_toArray, List.set_cons_zero, List.set_cons_succ])
    refine wpAnyH_take (i := 7) (v := undef) at5_7 (by kernel_rfl) (by kernel_rfl) (by kernel_rfl) (fun _ _ _ h => HQ.out _ _ _ _ _ h) (Or.inr ⟨by rfl, rfl⟩) (by assumption) ?_
    (try simp only [Act.put, List.setIfInBounds_toArray, List.set_cons_zero, List.set_cons_succ])
    refine wpAnyH_take (i := 8) (v := undef) at5_8 (by kernel_rfl) (by kernel_rfl) (by kernel_rfl) (fun _ _ _ h => HQ.out _ _ _ _ _ h) (Or.inr ⟨by rfl, rfl⟩) (by assumption) ?_
    (try simp only [Act.put, List.setIfInBounds_toArray, List.set_cons_zero, List.set_cons_succ])
    refine wpAnyH_take (i := 9) (v := undef) at5_9 (by kernel_rfl) (by kernel_rfl) (by kernel_rfl) (fun _ _ _ h => HQ.out _ _ _ _ _ h) (Or.inr ⟨by rfl, rfl⟩) (by assumption) ?_
    (try simp only [Act.put, List.setIfInBounds_toArray, List.set_cons_zero, List.set_cons_succ])
    refine wpAnyH_take (i := 10) (v := undef) at5_10 (by kernel_rfl) (by kernel_rfl) (by kernel_rfl) (fun _ _ _ h => HQ.out _ _ _ _ _ h) (Or.inr ⟨by rfl, rfl⟩) (by assumption) ?_
    (try simp only [Act.put, List.setIfInBounds_toArray, List.set_cons_zero, List.set_cons_succ])
    refine wpAnyH_take (i := 11) (v := undef) at5_11 (by kernel_rfl) (by kernel_rfl) (by kernel_rfl) (fun _ _ _ h => HQ.out _ _ _ _ _ h) (Or.inr ⟨by rfl, rfl⟩) (by assumption) ?_
    (try simp only [Act.put, List.setIfInBounds_toArray, List.set_cons_zero, List.set_cons_succ])
    refine wpAnyH_take (i := 12) (v := undef) at5_12 (by kernel_rfl) (by kernel_rfl) (by kernel_rfl) (fun _ _ _ h => HQ.out _ _ _ _ _ h) (Or.inr ⟨by rfl, rfl⟩) (by assumption) ?_
    (try simp only [Act.put, List.setIfInBounds_toArray, List.set_cons_zero, List.set_cons_succ])
    refine wpAnyH_take (i := 13) (v := undef) at5_13 (by kernel_rfl) (by kernel_rfl) (by kernel_rfl) (fun _ _ _ h => HQ.out _ _ _ _ _ h) (Or.inr ⟨by rfl, rfl⟩) (by assumption) ?_
    (try simp only [Act.put, List.setIfInBounds_toArray, List.set_cons_zero, List.set_cons_succ])
    refine wpAnyH_take (i := 14) (v := undef) at5_14 (by kernel_rfl) (by kernel_rfl) (by kernel_rfl) (fun _ _ _ h => HQ.out _ _ _ _ _ h) (Or.inr ⟨by rfl, rfl⟩) (by assumption) ?_
    (try simp only [Act.put, List.setIfInBounds_toArray, List.set_cons_zero, List.set_cons_succ])
    refine wpAnyH_take (i := 15) (v := undef) at5_15 (by kernel_rfl) (by kernel_rfl) (by kernel_rfl) (fun _ _ _ h => HQ.out _ _ _ _ _ h) (Or.inr ⟨by rfl, rfl⟩) (by assumption) ?_
    (try simp only [Act.put, List.setIfInBounds_toArray, List.set_cons_zero, List.set_cons_succ])
    refine wpAnyH_take (i := 16) (v := undef) at5_16 (by kernel_rfl) (by kernel_rfl) (by kernel_rfl) (fun _ _ _ h => HQ.out _ _ _ _ _ h) (Or.inr ⟨by rfl, rfl⟩) (by assumption) ?_
    (try simp only [Act.put, List.setIfInBounds_toArray, List.set_cons_zero, List.set_cons_succ])
    refine wpAnyH_take (i := 17) (v := undef) at5_17 (by kernel_rfl) (by kernel_rfl) (by kernel_rfl) (fun _ _ _ h => HQ.out _ _ _ _ _ h) (Or.inr ⟨by rfl, rfl⟩) (by assumption) ?_
    (try simp only [Act.put, List.setIfInBounds_toArray, List.set_cons_zero, List.set_cons_succ])
    refine wpAnyH_take (i := 18) (v := undef) at5_18 (by kernel_rfl) (by kernel_rfl) (by kernel_rfl) (fun _ _ _ h => HQ.out _ _ _ _ _ h) (Or.inr ⟨by rfl, rfl⟩) (by assumption) ?_
    (try simp only [Act.put, List.setIfInBounds_toArray, List.set_cons_zero, List.set_cons_succ])
    refine wpAnyH_take (i := 19) (v := ?v19c) at5_19 (by kernel_rfl) (by kernel_rfl) (by kernel_rfl) (fun _ _ _ h => HQ.out _ _ _ _ _ h) (Or.inl ⟨by rfl, ?y19c⟩) (by assumption) ?r19c
    case y19c => (intro w hSw; (try dsimp only at hSw); go_simp; (try with_reducible rfl))
    (try simp only [Act.put, List.setIfInBounds_toArray, List.set_cons_zero, List.set_cons_succ])
    refine wpAnyH_done (by kernel_rfl) ?_ _
    exact HK.out _ _ _ _ _ _ _ _ _ _ _ _ _ _ _ _ _ _ _ _ (HX.below (Below.refl _ _).drew)
  · have he' : (e != 0) = true := by simpa using he
    obtain rfl := HAS.out.same he
    have HX := HRX.out
    obtain ⟨ma, mb, hm⟩ := HX.mem
    have hn : s'.xs.length ≤ 65536 := hm.top
    have HSE : Hid (∀ W, Rw w0 d s' s' k' ⟨pm, bm, qp, gp, z, ⟨kd, wh, pg, fm, rt⟩⟩ W → W.cell? ⟨d.g, 0, none⟩ = some (.pointer (some ⟨d.u.mp, 0, none⟩))) := fun W h => P.cell_of (i := 0) h.fv.blk rfl
    obtain ⟨nn, hnn⟩ : ∃ nn, s'.xs.length = nn := ⟨_, rfl⟩
    obtain ⟨ws, hws⟩ : ∃ ws, wordsV ⟨s'.xs, 0, 0⟩ 0 nn = ws := ⟨_, rfl⟩
    have H30a : Hid (∀ W, Hid (Rw w0 d s' s' k' ⟨pm, bm, qp, gp, z, ⟨kd, wh, pg, fm, rt⟩⟩ W) → Calls Tryz.prog 30 #[.pointer (some ⟨pm, 0, none⟩)] W fun v w' => v = .returned (.int .i64 nn) ∧ (w'.cell? ⟨d.g, 0, none⟩ = some (.pointer (some ⟨d.u.mp, 0, none⟩))) ∧ Hid (Rw w0 d s' s' k' ⟨pm, bm, qp, gp, z, ⟨kd, wh, pg, fm, rt⟩⟩ w')) := fun W h => by
      obtain ⟨ma, mb, hm⟩ := h.out.mem
      refine (len_at hm).mono ?_
      rintro v w' ⟨rfl, hw⟩
      rw [hw, hnn]
      exact ⟨rfl, HSE.out _ h.out, h⟩
    have H30b : Hid (∀ W x, Hid (Rw w0 d s' s' k' ⟨pm, bm, qp, gp, z, ⟨kd, wh, pg, fm, rt⟩⟩ W) → Hid (Lies W x ws) → Calls Tryz.prog 30 #[.pointer (some ⟨d.u.mp, 0, none⟩)] W fun v w' => v = .returned (.int .i64 nn) ∧ (w'.cell? ⟨d.g, 0, none⟩ = some (.pointer (some ⟨d.u.mp, 0, none⟩))) ∧ Hid (Rw w0 d s' s' k' ⟨pm, bm, qp, gp, z, ⟨kd, wh, pg, fm, rt⟩⟩ w') ∧ Hid (Lies w' x ws)) := fun W x h hx => by
      obtain ⟨ma, mb, hm, -⟩ := h.out.fv.wo.mem
      refine (len_at hm).mono ?_
      rintro v w' ⟨rfl, hw⟩
      rw [hw, hnn]
      exact ⟨rfl, HSE.out _ h.out, h, hx⟩
    have H29a : Hid (∀ W, Hid (Rw w0 d s' s' k' ⟨pm, bm, qp, gp, z, ⟨kd, wh, pg, fm, rt⟩⟩ W) → Calls Tryz.prog 29 #[.pointer (some ⟨pm, 0, none⟩), .int .i64 0, .int .i64 nn] W fun v w' => ∃ x, v = .returned x ∧ (w'.cell? ⟨d.g, 0, none⟩ = some (.pointer (some ⟨d.u.mp, 0, none⟩))) ∧ Hid (Rw w0 d s' s' k' ⟨pm, bm, qp, gp, z, ⟨kd, wh, pg, fm, rt⟩⟩ w') ∧ Hid (Lies w' x ws)) := fun W h => by
      obtain ⟨ma, mb, hm⟩ := h.out.mem
      refine (words_any (s := ⟨s'.xs, ma, mb⟩) hm 0 nn (by omega)).mono ?_
      rintro v w' ⟨x, rfl, hx, hB⟩
      exact ⟨x, rfl, HSE.out _ (h.out.below hB), h.out.below hB, hws ▸ hx⟩
    have H29b : Hid (∀ W y, Hid (Rw w0 d s' s' k' ⟨pm, bm, qp, gp, z, ⟨kd, wh, pg, fm, rt⟩⟩ W) → Hid (Lies W y ws) → Calls Tryz.prog 29 #[.pointer (some ⟨d.u.mp, 0, none⟩), .int .i64 0, .int .i64 nn] W fun v w' => ∃ x, v = .returned x ∧ (w'.cell? ⟨d.g, 0, none⟩ = some (.pointer (some ⟨d.u.mp, 0, none⟩))) ∧ Hid (Rw w0 d s' s' k' ⟨pm, bm, qp, gp, z, ⟨kd, wh, pg, fm, rt⟩⟩ w') ∧ Hid (Lies w' y ws) ∧ Hid (Lies w' x ws)) := fun W y h hy => by
      obtain ⟨ma, mb, hm, -⟩ := h.out.fv.wo.mem
      refine (words_any (s := ⟨s'.xs, ma, mb⟩) hm 0 nn (by omega)).mono ?_
      rintro v w' ⟨x, rfl, hx, hB⟩
      exact ⟨x, rfl, HSE.out _ (h.out.below hB), h.out.below hB, hy.out.below hB, hws ▸ hx⟩
    have H28 : Hid (∀ W x y, Hid (Rw w0 d s' s' k' ⟨pm, bm, qp, gp, z, ⟨kd, wh, pg, fm, rt⟩⟩ W) → Hid (Lies W x ws) → Hid (Lies W y ws) → Calls Tryz.prog 28 #[x, y] W fun v w' => v = .returned (.bool true) ∧ (w'.cell? ⟨d.g, 0, none⟩ = some (.pointer (some ⟨d.u.mp, 0, none⟩))) ∧ Hid (Rw w0 d s' s' k' ⟨pm, bm, qp, gp, z, ⟨kd, wh, pg, fm, rt⟩⟩ w')) := fun W x y h hx hy => by
      refine (same_any hx.out hy.out).mono ?_
      rintro v w' ⟨rfl, hB⟩
      exact ⟨rfl, HSE.out _ (h.out.below hB), h.out.below hB⟩
    have HBD : Hid (Rw w0 d s' s' k' ⟨pm, bm, qp, gp, z, ⟨kd, wh, pg, fm, rt⟩⟩ w.drew) := HX.below (Below.refl _ _).drew
    have hS0 : w.drew.cell? ⟨d.g, 0, none⟩ = some (.pointer (some ⟨d.u.mp, 0, none⟩)) := HSE.out _ HBD.out
    clear hm hn hnn hws HX HRX HAS
    refine wp_region_held_drew (S := fun w' => w'.cell? ⟨d.g, 0, none⟩ = some (.pointer (some ⟨d.u.mp, 0, none⟩))) (by kernel_rfl) hS0 (fun hHeld => ?_)
    refine wpAnyH_take (i := 0) (v := ?v0b) at5_0 (by kernel_rfl) (by kernel_rfl) (by kernel_rfl) (fun _ _ _ h => HQ.out _ _ _ _ _ h) (Or.inl ⟨by rfl, ?y0b⟩) (by assumption) ?r0b
    case y0b => (intro w hSw; (try dsimp only at hSw); go_simp; (try with_reducible rfl))
    (try simp only [Act.put, List.setIfInBounds_toArray, List.set_cons_zero, List.set_cons_succ])
    refine wpAnyH_take (i := 1) (v := ?v1b) at5_1 (by kernel_rfl) (by kernel_rfl) (by kernel_rfl) (fun _ _ _ h => HQ.out _ _ _ _ _ h) (Or.inl ⟨by rfl, ?y1b⟩) (by assumption) ?r1b
    case y1b => (intro w hSw; (try dsimp only at hSw); go_simp; (try with_reducible rfl))
    (try simp only [Act.put, List.setIfInBounds_toArray, List.set_cons_zero, List.set_cons_succ])
    refine wpAnyH_take (i := 2) (v := ?v2b) at5_2 (by kernel_rfl) (by kernel_rfl) (by kernel_rfl) (fun _ _ _ h => HQ.out _ _ _ _ _ h) (Or.inl ⟨by rfl, ?y2b⟩) (by assumption) ?r2b
    case y2b => (intro w hSw; (try dsimp only at hSw); go_simp; (try with_reducible rfl))
    (try simp only [Act.put, List.setIfInBounds_toArray, List.set_cons_zero, List.set_cons_succ])
    refine wpAnyH_take (i := 3) (v := ?v3b) at5_3 (by kernel_rfl) (by kernel_rfl) (by kernel_rfl) (fun _ _ _ h => HQ.out _ _ _ _ _ h) (Or.inl ⟨by rfl, ?y3b⟩) (by assumption) ?r3b
    case y3b => (intro w hSw; (try dsimp only at hSw); go_simp; (try with_reducible rfl))
    (try simp only [Act.put, List.setIfInBounds_toArray, List.set_cons_zero, List.set_cons_succ])
    refine wpAnyH_take (i := 4) (v := ?v4b) at5_4 (by kernel_rfl) (by kernel_rfl) (by kernel_rfl) (fun _ _ _ h => HQ.out _ _ _ _ _ h) (Or.inl ⟨by rfl, ?y4b⟩) (by assumption) ?r4b
    case y4b => (intro w hSw; (try dsimp only at hSw); go_simp; (try with_reducible rfl))
    (try simp only [Act.put, List.setIfInBounds_toArray, List.set_cons_zero, List.set_cons_succ])
    refine wpAnyH_take (i := 7) (v := ?v7b) at5_7 (by kernel_rfl) (by kernel_rfl) (by kernel_rfl) (fun _ _ _ h => HQ.out _ _ _ _ _ h) (Or.inl ⟨by rfl, ?y7b⟩) (by assumption) ?r7b
    case y7b => (intro w hSw; (try dsimp only at hSw); go_simp; (try with_reducible rfl))
    (try simp only [Act.put, List.setIfInBounds_toArray, List.set_cons_zero, List.set_cons_succ])
    refine wpAnyH_take (i := 8) (v := ?v8b) at5_8 (by kernel_rfl) (by kernel_rfl) (by kernel_rfl) (fun _ _ _ h => HQ.out _ _ _ _ _ h) (Or.inl ⟨by rfl, ?y8b⟩) (by assumption) ?r8b
    case y8b => (intro w hSw; (try dsimp only at hSw); go_simp; (try with_reducible rfl))
    (try simp only [Act.put, List.setIfInBounds_toArray, List.set_cons_zero, List.set_cons_succ])
    refine wpAnyH_take (i := 9) (v := ?v9b) at5_9 (by kernel_rfl) (by kernel_rfl) (by kernel_rfl) (fun _ _ _ h => HQ.out _ _ _ _ _ h) (Or.inl ⟨by rfl, ?y9b⟩) (by assumption) ?r9b
    case y9b => (intro w hSw; (try dsimp only at hSw); go_simp; (try with_reducible rfl))
    (try simp only [Act.put, List.setIfInBounds_toArray, List.set_cons_zero, List.set_cons_succ])
    refine wpAnyH_take (i := 10) (v := ?v10b) at5_10 (by kernel_rfl) (by kernel_rfl) (by kernel_rfl) (fun _ _ _ h => HQ.out _ _ _ _ _ h) (Or.inl ⟨by rfl, ?y10b⟩) (by assumption) ?r10b
    case y10b => (intro w hSw; (try dsimp only at hSw); go_simp; (try with_reducible rfl))
    (try simp only [Act.put, List.setIfInBounds_toArray, List.set_cons_zero, List.set_cons_succ])
    refine wpAnyH_take (i := 11) (v := ?v11b) at5_11 (by kernel_rfl) (by kernel_rfl) (by kernel_rfl) (fun _ _ _ h => HQ.out _ _ _ _ _ h) (Or.inl ⟨by rfl, ?y11b⟩) (by assumption) ?r11b
    case y11b => (intro w hSw; (try dsimp only at hSw); go_simp; (try with_reducible rfl))
    (try simp only [Act.put, List.setIfInBounds_toArray, List.set_cons_zero, List.set_cons_succ])
    refine wpAnyH_take (i := 12) (v := ?v12b) at5_12 (by kernel_rfl) (by kernel_rfl) (by kernel_rfl) (fun _ _ _ h => HQ.out _ _ _ _ _ h) (Or.inl ⟨by rfl, ?y12b⟩) (by assumption) ?r12b
    case y12b => (intro w hSw; (try dsimp only at hSw); go_simp; (try with_reducible rfl))
    (try simp only [Act.put, List.setIfInBounds_toArray, List.set_cons_zero, List.set_cons_succ])
    refine wpAnyH_take (i := 13) (v := ?v13b) at5_13 (by kernel_rfl) (by kernel_rfl) (by kernel_rfl) (fun _ _ _ h => HQ.out _ _ _ _ _ h) (Or.inl ⟨by rfl, ?y13b⟩) (by assumption) ?r13b
    case y13b => (intro w hSw; (try dsimp only at hSw); go_simp; (try with_reducible rfl))
    (try simp only [Act.put, List.setIfInBounds_toArray, List.set_cons_zero, List.set_cons_succ])
    refine wpAnyH_take (i := 14) (v := ?v14b) at5_14 (by kernel_rfl) (by kernel_rfl) (by kernel_rfl) (fun _ _ _ h => HQ.out _ _ _ _ _ h) (Or.inl ⟨by rfl, ?y14b⟩) (by assumption) ?r14b
    case y14b => (intro w hSw; (try dsimp only at hSw); go_simp; (try with_reducible rfl))
    (try simp only [Act.put, List.setIfInBounds_toArray, List.set_cons_zero, List.set_cons_succ])
    refine wpAnyH_ready (rs := [5]) (by kernel_rfl) (by simp) ?_
    refine AllReadyH.cons at5_5 (fun K hK => ?_) AllReadyH.nil
    go_simp
    refine (H30a.out _ HBD).mono ?_
    rintro e1 w6 ⟨rfl, hS6, HR6⟩
    go_wp2_with fail
    refine hK.out _ _ hS6 (fun hHeld2 => ?_)
    clear hK K hHeld
    have hHeld := hHeld2
    clear hHeld2
    (try simp only [Act.put, List.setIfInBounds_toArray, List.set_cons_zero, List.set_cons_succ])
    refine wpAnyH_ready (rs := [6]) (by kernel_rfl) (by simp) ?_
    refine AllReadyH.cons at5_6 (fun K hK => ?_) AllReadyH.nil
    go_simp
    refine (H29a.out _ HR6).mono ?_
    rintro e1 w7 ⟨x7, rfl, hS7, HR7, HL7⟩
    go_wp2_with fail
    refine hK.out _ _ hS7 (fun hHeld2 => ?_)
    clear hK K hHeld
    have hHeld := hHeld2
    clear hHeld2
    (try simp only [Act.put, List.setIfInBounds_toArray, List.set_cons_zero, List.set_cons_succ])
    refine wpAnyH_ready (rs := [15]) (by kernel_rfl) (by simp) ?_
    refine AllReadyH.cons at5_15 (fun K hK => ?_) AllReadyH.nil
    go_simp
    refine (H30b.out _ _ HR7 HL7).mono ?_
    rintro e1 w8 ⟨rfl, hS8, HR8, HL8⟩
    go_wp2_with fail
    refine hK.out _ _ hS8 (fun hHeld2 => ?_)
    clear hK K hHeld
    have hHeld := hHeld2
    clear hHeld2
    (try simp only [Act.put, List.setIfInBounds_toArray, List.set_cons_zero, List.set_cons_succ])
    refine wpAnyH_ready (rs := [16]) (by kernel_rfl) (by simp) ?_
    refine AllReadyH.cons at5_16 (fun K hK => ?_) AllReadyH.nil
    go_simp
    refine (H29b.out _ _ HR8 HL8).mono ?_
    rintro e1 w9 ⟨x9, rfl, hS9, HR9, HL9, HL9b⟩
    go_wp2_with fail
    refine hK.out _ _ hS9 (fun hHeld2 => ?_)
    clear hK K hHeld
    have hHeld := hHeld2
    clear hHeld2
    (try simp only [Act.put, List.setIfInBounds_toArray, List.set_cons_zero, List.set_cons_succ])
    refine wpAnyH_ready (rs := [17]) (by kernel_rfl) (by simp) ?_
    refine AllReadyH.cons at5_17 (fun K hK => ?_) AllReadyH.nil
    go_simp
    refine (H28.out _ _ _ HR9 HL9 HL9b).mono ?_
    rintro e1 w10 ⟨rfl, hS10, HR10⟩
    go_wp2_with fail
    refine hK.out _ _ hS10 (fun hHeld2 => ?_)
    clear hK K hHeld
    have hHeld := hHeld2
    clear hHeld2
    (try simp only [Act.put, List.setIfInBounds_toArray, List.set_cons_zero, List.set_cons_succ])
    refine wpAnyH_take (i := 18) (v := ?v18b) at5_18 (by kernel_rfl) (by kernel_rfl) (by kernel_rfl) (fun _ _ _ h => HQ.out _ _ _ _ _ h) (Or.inl ⟨by rfl, ?y18b⟩) (by assumption) ?r18b
    case y18b => (intro w hSw; (try dsimp only at hSw); go_simp; (try with_reducible rfl))
    (try simp only [Act.put, List.setIfInBounds_toArray, List.set_cons_zero, List.set_cons_succ])
    refine wpAnyH_take (i := 19) (v := ?v19b) at5_19 (by kernel_rfl) (by kernel_rfl) (by kernel_rfl) (fun _ _ _ h => HQ.out _ _ _ _ _ h) (Or.inl ⟨by rfl, ?y19b⟩) (by assumption) ?r19b
    case y19b => (intro w hSw; (try dsimp only at hSw); go_simp; (try with_reducible rfl))
    (try simp only [Act.put, List.setIfInBounds_toArray, List.set_cons_zero, List.set_cons_succ])
    refine wpAnyH_done (by kernel_rfl) ?_ _
    exact HK.out _ _ _ _ _ _ _ _ _ _ _ _ _ _ _ _ _ _ _ _ HR10.out
end Go.Proofs.YtpfmmlbakbhklaaGreatDoor
namespace Go.Proofs.YtpfmmlbakbhklaaGreatDoor
open Go.RowKit
set_option maxRecDepth 100000 in
set_option maxHeartbeats 8000000 in
theorem f27 {Q : Exit → Act → World → Prop} {w0 w : World} {d : Sd} {s s' : Sm} {k' pm bm qp gp z : Nat} {kd wh pg fm rt e : Int} {c0 c1 c2 c3 c4 c6 c7 c9 c10 c13 c14 c15 c16 c17 c18 c19 c20 c21 c22 c23 c24 c25 c26 c27 c28 c29 c30 c31 c32 c33 c34 c35 c36 c37 c38 c39 c40 c41 c42 c43 c44 c45 c46 c47 c48 c49 c50 c51 c52 c53 c54 c55 c56 c57 c58 c59 c60 c61 c62 c63 c64 c65 c66 c67 c68 c69 c70 c71 c72 c73 c74 c75 c76 c77 c78 c79 c80 c81 c82 c83 c84 c85 c86 c87 c88 c89 c90 c91 c92 c93 c94 c95 c96 c97 c98 c99 c100 c101 c102 c103 c104 c105 c106 c107 c108 c109 c110 c111 c112 c113 c114 c115 c116 c117 c118 c119 c120 c121 c122 c123 c124 c125 c126 c127 c128 c129 c130 c131 c132 c133 c134 c135 c136 c137 c138 c139 c140 c141 c142 c143 c144 c145 c146 c147 c148 c149 c150 c151 c152 c153 c154 c155 c156 c157 c158 c159 c160 c161 c162 c163 c164 c165 c166 c167 c168 c169 c170 c171 c172 c173 c174 c175 c176 c177 c178 c179 c180 c181 c182 c183 c184 c185 c186 c187 c188 : Value} (hQ : ∀ c (a : Act) (d : Tmp) (v : Value) w, Q (.panic c) (a.put (some d) v) w → Q (.panic c) a w)
    (hx : Rw w0 d s s' k' ⟨pm, bm, qp, gp, z, ⟨kd, wh, pg, fm, rt⟩⟩ w) (ha : Ask kd e s s')
    (hK : ∀ (u135 u136 u137 u138 u139 u140 u141 u142 u143 u144 u145 u146 u147 u148 u149 u150 u151 u152 u153 u154 u155 u156 u157 u158 : Value) (w' : World), Rw w0 d s s' k' ⟨pm, bm, qp, gp, z, ⟨kd, wh, pg, fm, rt⟩⟩ w' → Q .normal ⟨#[c0, c1, c2, c3, c4, .pointer (some ⟨d.g, 0, none⟩), c6, c7, .pointer (some ⟨z, 0, none⟩), c9, c10, .pointer (some ⟨qp, 0, none⟩), .int .i64 e, c13, c14, c15, c16, c17, c18, c19, c20, c21, c22, c23, c24, c25, c26, c27, c28, c29, c30, c31, c32, c33, c34, c35, c36, c37, c38, c39, c40, c41, c42, c43, c44, c45, c46, c47, c48, c49, c50, c51, c52, c53, c54, c55, c56, c57, c58, c59, c60, c61, c62, c63, c64, c65, c66, c67, c68, c69, c70, c71, c72, c73, c74, c75, c76, c77, c78, c79, c80, c81, c82, c83, c84, c85, c86, c87, c88, c89, c90, c91, c92, c93, c94, c95, c96, c97, c98, c99, c100, c101, c102, c103, c104, c105, c106, c107, c108, c109, c110, c111, c112, c113, c114, c115, c116, c117, c118, c119, c120, c121, c122, c123, c124, c125, c126, c127, c128, c129, c130, c131, c132, c133, c134, u135, u136, u137, u138, u139, u140, u141, u142, u143, u144, u145, u146, u147, u148, u149, u150, u151, u152, u153, u154, u155, u156, u157, u158, .bool false, c160, c161, c162, c163, c164, c165, c166, c167, c168, c169, c170, c171, c172, c173, c174, c175, c176, c177, c178, c179, c180, c181, c182, c183, c184, c185, c186, c187, c188], []⟩ w') :
    Code.wp Tryz.prog ((Tryz.f5.body.bind (pickR 27)).getD .skip) Q ⟨#[c0, c1, c2, c3, c4, .pointer (some ⟨d.g, 0, none⟩), c6, c7, .pointer (some ⟨z, 0, none⟩), c9, c10, .pointer (some ⟨qp, 0, none⟩), .int .i64 e, c13, c14, c15, c16, c17, c18, c19, c20, c21, c22, c23, c24, c25, c26, c27, c28, c29, c30, c31, c32, c33, c34, c35, c36, c37, c38, c39, c40, c41, c42, c43, c44, c45, c46, c47, c48, c49, c50, c51, c52, c53, c54, c55, c56, c57, c58, c59, c60, c61, c62, c63, c64, c65, c66, c67, c68, c69, c70, c71, c72, c73, c74, c75, c76, c77, c78, c79, c80, c81, c82, c83, c84, c85, c86, c87, c88, c89, c90, c91, c92, c93, c94, c95, c96, c97, c98, c99, c100, c101, c102, c103, c104, c105, c106, c107, c108, c109, c110, c111, c112, c113, c114, c115, c116, c117, c118, c119, c120, c121, c122, c123, c124, c125, c126, c127, c128, c129, c130, c131, c132, c133, c134, c135, c136, c137, c138, c139, c140, c141, c142, c143, c144, c145, c146, c147, c148, c149, c150, c151, c152, c153, c154, c155, c156, c157, c158, c159, c160, c161, c162, c163, c164, c165, c166, c167, c168, c169, c170, c171, c172, c173, c174, c175, c176, c177, c178, c179, c180, c181, c182, c183, c184, c185, c186, c187, c188], []⟩ w := by
  have HK : Hid (∀ (u135 u136 u137 u138 u139 u140 u141 u142 u143 u144 u145 u146 u147 u148 u149 u150 u151 u152 u153 u154 u155 u156 u157 u158 : Value) (w' : World), Rw w0 d s s' k' ⟨pm, bm, qp, gp, z, ⟨kd, wh, pg, fm, rt⟩⟩ w' → Q .normal ⟨#[c0, c1, c2, c3, c4, .pointer (some ⟨d.g, 0, none⟩), c6, c7, .pointer (some ⟨z, 0, none⟩), c9, c10, .pointer (some ⟨qp, 0, none⟩), .int .i64 e, c13, c14, c15, c16, c17, c18, c19, c20, c21, c22, c23, c24, c25, c26, c27, c28, c29, c30, c31, c32, c33, c34, c35, c36, c37, c38, c39, c40, c41, c42, c43, c44, c45, c46, c47, c48, c49, c50, c51, c52, c53, c54, c55, c56, c57, c58, c59, c60, c61, c62, c63, c64, c65, c66, c67, c68, c69, c70, c71, c72, c73, c74, c75, c76, c77, c78, c79, c80, c81, c82, c83, c84, c85, c86, c87, c88, c89, c90, c91, c92, c93, c94, c95, c96, c97, c98, c99, c100, c101, c102, c103, c104, c105, c106, c107, c108, c109, c110, c111, c112, c113, c114, c115, c116, c117, c118, c119, c120, c121, c122, c123, c124, c125, c126, c127, c128, c129, c130, c131, c132, c133, c134, u135, u136, u137, u138, u139, u140, u141, u142, u143, u144, u145, u146, u147, u148, u149, u150, u151, u152, u153, u154, u155, u156, u157, u158, .bool false, c160, c161, c162, c163, c164, c165, c166, c167, c168, c169, c170, c171, c172, c173, c174, c175, c176, c177, c178, c179, c180, c181, c182, c183, c184, c185, c186, c187, c188], []⟩ w') := hid hK
  have HQ : Hid (∀ c (a : Act) (d : Tmp) (v : Value) w, Q (.panic c) (a.put (some d) v) w → Q (.panic c) a w) := hid hQ
  have HRX := hid hx
  have HAS := hid ha
  clear hK hx ha hQ
  have HX := HRX.out
  have HSE : Hid (∀ W, Rw w0 d s s' k' ⟨pm, bm, qp, gp, z, ⟨kd, wh, pg, fm, rt⟩⟩ W → (W.cell? ⟨d.g, 1, none⟩ = some (.pointer (some ⟨d.u.pp, 0, none⟩)) ∧ W.cell? ⟨z, 0, none⟩ = some (.int .i64 kd))) := fun W h => ⟨P.cell_of (i := 1) h.fv.blk rfl, P.cell_of (i := 0) h.box rfl⟩
  obtain ⟨c0', hc0⟩ : ∃ c0, O.cK s'.ds 0 = c0 := ⟨_, rfl⟩
  obtain ⟨c5', hc5⟩ : ∃ c5, O.cK s.ds 5 = c5 := ⟨_, rfl⟩
  obtain ⟨c6', hc6⟩ : ∃ c6, O.cK s'.ds 5 = c6 := ⟨_, rfl⟩
  have H31a : Hid (∀ W, Hid (Rw w0 d s s' k' ⟨pm, bm, qp, gp, z, ⟨kd, wh, pg, fm, rt⟩⟩ W) → Calls Tryz.prog 31 #[.pointer (some ⟨qp, 0, none⟩), .int .i64 5] W fun v w' => v = .returned (.int .i64 (c5' : Nat)) ∧ (w'.cell? ⟨d.g, 1, none⟩ = some (.pointer (some ⟨d.u.pp, 0, none⟩)) ∧ w'.cell? ⟨z, 0, none⟩ = some (.int .i64 kd)) ∧ Hid (Rw w0 d s s' k' ⟨pm, bm, qp, gp, z, ⟨kd, wh, pg, fm, rt⟩⟩ w')) := fun W h => by
    refine (O.count_at h.out.pool 5).mono ?_
    rintro v w' ⟨rfl, hB⟩
    rw [hc5]
    exact ⟨rfl, HSE.out _ (h.out.below hB), h.out.below hB⟩
  have H31b : Hid (∀ W, Hid (Rw w0 d s s' k' ⟨pm, bm, qp, gp, z, ⟨kd, wh, pg, fm, rt⟩⟩ W) → Calls Tryz.prog 31 #[.pointer (some ⟨d.u.pp, 0, none⟩), .int .i64 0] W fun v w' => v = .returned (.int .i64 (c0' : Nat)) ∧ (w'.cell? ⟨d.g, 1, none⟩ = some (.pointer (some ⟨d.u.pp, 0, none⟩)) ∧ w'.cell? ⟨z, 0, none⟩ = some (.int .i64 kd)) ∧ Hid (Rw w0 d s s' k' ⟨pm, bm, qp, gp, z, ⟨kd, wh, pg, fm, rt⟩⟩ w')) := fun W h => by
    refine (O.count_at h.out.fv.wo.pool 0).mono ?_
    rintro v w' ⟨rfl, hB⟩
    rw [hc0]
    exact ⟨rfl, HSE.out _ (h.out.below hB), h.out.below hB⟩
  have H31c : Hid (∀ W, Hid (Rw w0 d s s' k' ⟨pm, bm, qp, gp, z, ⟨kd, wh, pg, fm, rt⟩⟩ W) → Calls Tryz.prog 31 #[.pointer (some ⟨d.u.pp, 0, none⟩), .int .i64 5] W fun v w' => v = .returned (.int .i64 (c6' : Nat)) ∧ (w'.cell? ⟨d.g, 1, none⟩ = some (.pointer (some ⟨d.u.pp, 0, none⟩)) ∧ w'.cell? ⟨z, 0, none⟩ = some (.int .i64 kd)) ∧ Hid (Rw w0 d s s' k' ⟨pm, bm, qp, gp, z, ⟨kd, wh, pg, fm, rt⟩⟩ w')) := fun W h => by
    refine (O.count_at h.out.fv.wo.pool 5).mono ?_
    rintro v w' ⟨rfl, hB⟩
    rw [hc6]
    exact ⟨rfl, HSE.out _ (h.out.below hB), h.out.below hB⟩
  have hfew : e = 12 → ¬ (3 : Int) < (c0' : Nat) := fun h => by
    have := HAS.out.few h
    omega
  have hret : kd ≠ 2 → ((c5' : Int) != (c6' : Nat)) = false := fun h => by
    have := HAS.out.ret h
    rw [← hc5, ← hc6, this]
    simp
  have HBD : Hid (Rw w0 d s s' k' ⟨pm, bm, qp, gp, z, ⟨kd, wh, pg, fm, rt⟩⟩ w.drew) := HX.below (Below.refl _ _).drew
  have hS0 : w.drew.cell? ⟨d.g, 1, none⟩ = some (.pointer (some ⟨d.u.pp, 0, none⟩)) ∧ w.drew.cell? ⟨z, 0, none⟩ = some (.int .i64 kd) := HSE.out _ HBD.out
  clear hc0 hc5 hc6 HX HRX HAS
  conv => arg 2; whnf
  by_cases h12 : e = 12
  · have q12' : ¬ (3 : Int) < (c0' : Nat) := hfew h12
    have q12 : decide ((3 : Int) < (c0' : Nat)) = false := decide_eq_false q12'
    have qe : (e == 12) = true := by simpa using h12
    clear h12 hfew
    by_cases h2 : kd = 2
    · have qk2 : (kd != 2) = false := by simp [h2]
      clear h2 hret
      refine wp_region_held_drew (S := fun w' => w'.cell? ⟨d.g, 1, none⟩ = some (.pointer (some ⟨d.u.pp, 0, none⟩)) ∧ w'.cell? ⟨z, 0, none⟩ = some (.int .i64 kd)) (by kernel_rfl) hS0 (fun hHeld => ?_)
      refine wpAnyH_take (i := 0) (v := ?v0d) at5_0 (by kernel_rfl) (by kernel_rfl) (by kernel_rfl) (fun _ _ _ h => HQ.out _ _ _ _ _ h) (Or.inl ⟨by rfl, ?y0d⟩) (by assumption) ?r0d
      case y0d => (intro w hSw; (try dsimp only at hSw); go_simp; (try with_reducible rfl))
      (try simp only [Act.put, List.setIfInBounds_toArray, List.set_cons_zero, List.set_cons_succ])
      refine wpAnyH_take (i := 1) (v := ?v1d) at5_1 (by kernel_rfl) (by kernel_rfl) (by kernel_rfl) (fun _ _ _ h => HQ.out _ _ _ _ _ h) (Or.inl ⟨by rfl, ?y1d⟩) (by assumption) ?r1d
      case y1d => (intro w hSw; (try dsimp only at hSw); go_simp; (try with_reducible rfl))
      (try simp only [Act.put, List.setIfInBounds_toArray, List.set_cons_zero, List.set_cons_succ])
      refine wpAnyH_take (i := 2) (v := ?v2d) at5_2 (by kernel_rfl) (by kernel_rfl) (by kernel_rfl) (fun _ _ _ h => HQ.out _ _ _ _ _ h) (Or.inl ⟨by rfl, ?y2d⟩) (by assumption) ?r2d
      case y2d => (intro w hSw; (try dsimp only at hSw); go_simp; (try with_reducible rfl))
      (try simp only [Act.put, List.setIfInBounds_toArray, List.set_cons_zero, List.set_cons_succ])
      refine wpAnyH_take (i := 3) (v := ?v3d) at5_3 (by kernel_rfl) (by kernel_rfl) (by kernel_rfl) (fun _ _ _ h => HQ.out _ _ _ _ _ h) (Or.inl ⟨by rfl, ?y3d⟩) (by assumption) ?r3d
      case y3d => (intro w hSw; (try dsimp only at hSw); go_simp; (try with_reducible rfl))
      (try simp only [Act.put, List.setIfInBounds_toArray, List.set_cons_zero, List.set_cons_succ])
      refine wpAnyH_take (i := 4) (v := ?v4d) at5_4 (by kernel_rfl) (by kernel_rfl) (by kernel_rfl) (fun _ _ _ h => HQ.out _ _ _ _ _ h) (Or.inl ⟨by rfl, ?y4d⟩) (by assumption) ?r4d
      case y4d => (intro w hSw; (try dsimp only at hSw); go_simp; (try with_reducible rfl))
      (try simp only [Act.put, List.setIfInBounds_toArray, List.set_cons_zero, List.set_cons_succ])
      refine wpAnyH_take (i := 5) (v := ?v5d) at5_5 (by kernel_rfl) (by kernel_rfl) (by kernel_rfl) (fun _ _ _ h => HQ.out _ _ _ _ _ h) (Or.inl ⟨by rfl, ?y5d⟩) (by assumption) ?r5d
      case y5d => (intro w hSw; (try dsimp only at hSw); go_simp; (try with_reducible rfl))
      (try simp only [Act.put, List.setIfInBounds_toArray, List.set_cons_zero, List.set_cons_succ])
      refine wpAnyH_take (i := 6) (v := ?v6d) at5_6 (by kernel_rfl) (by kernel_rfl) (by kernel_rfl) (fun _ _ _ h => HQ.out _ _ _ _ _ h) (Or.inl ⟨by rfl, ?y6d⟩) (by assumption) ?r6d
      case y6d => (intro w hSw; (try dsimp only at hSw); go_simp; (try with_reducible rfl))
      (try simp only [Act.put, List.setIfInBounds_toArray, List.set_cons_zero, List.set_cons_succ])
      refine wpAnyH_ready (rs := [7]) (by kernel_rfl) (by simp) ?_
      refine AllReadyH.cons at5_7 (fun K hK => ?_) AllReadyH.nil
      go_simp
      refine (H31b.out _ HBD).mono ?_
      rintro e1 w6 ⟨rfl, hS6, HR6⟩
      go_wp2_with fail
      refine hK.out _ _ hS6 (fun hHeld2 => ?_)
      clear hK K hHeld
      have hHeld := hHeld2
      clear hHeld2
      (try simp only [Act.put, List.setIfInBounds_toArray, List.set_cons_zero, List.set_cons_succ])
      refine wpAnyH_take (i := 8) (v := ?v8d) at5_8 (by kernel_rfl) (by kernel_rfl) (by kernel_rfl) (fun _ _ _ h => HQ.out _ _ _ _ _ h) (Or.inl ⟨by rfl, ?y8d⟩) (by assumption) ?r8d
      case y8d => (intro w hSw; (try dsimp only at hSw); go_simp; (try with_reducible rfl))
      (try simp only [Act.put, List.setIfInBounds_toArray, List.set_cons_zero, List.set_cons_succ])
      refine wpAnyH_take (i := 9) (v := ?v9d) at5_9 (by kernel_rfl) (by kernel_rfl) (by kernel_rfl) (fun _ _ _ h => HQ.out _ _ _ _ _ h) (Or.inl ⟨by rfl, ?y9d⟩) (by assumption) ?r9d
      case y9d => (intro w hSw; (try dsimp only at hSw); go_simp; (try with_reducible rfl))
      (try simp only [Act.put, List.setIfInBounds_toArray, List.set_cons_zero, List.set_cons_succ])
      refine wpAnyH_take (i := 10) (v := ?v10d) at5_10 (by kernel_rfl) (by kernel_rfl) (by kernel_rfl) (fun _ _ _ h => HQ.out _ _ _ _ _ h) (Or.inl ⟨by rfl, ?y10d⟩) (by assumption) ?r10d
      case y10d => (intro w hSw; (try dsimp only at hSw); go_simp; (try with_reducible rfl))
      (try simp only [Act.put, List.setIfInBounds_toArray, List.set_cons_zero, List.set_cons_succ])
      refine wpAnyH_take (i := 11) (v := ?v11d) at5_11 (by kernel_rfl) (by kernel_rfl) (by kernel_rfl) (fun _ _ _ h => HQ.out _ _ _ _ _ h) (Or.inl ⟨by rfl, ?y11d⟩) (by assumption) ?r11d
      case y11d => (intro w hSw; (try dsimp only at hSw); go_simp; (try with_reducible rfl))
      (try simp only [Act.put, List.setIfInBounds_toArray, List.set_cons_zero, List.set_cons_succ])
      refine wpAnyH_take (i := 12) (v := ?v12d) at5_12 (by kernel_rfl) (by kernel_rfl) (by kernel_rfl) (fun _ _ _ h => HQ.out _ _ _ _ _ h) (Or.inl ⟨by rfl, ?y12d⟩) (by assumption) ?r12d
      case y12d => (intro w hSw; (try dsimp only at hSw); go_simp; (try with_reducible rfl))
      (try simp only [Act.put, List.setIfInBounds_toArray, List.set_cons_zero, List.set_cons_succ])
      refine wpAnyH_take (i := 13) (v := ?v13d) at5_13 (by kernel_rfl) (by kernel_rfl) (by kernel_rfl) (fun _ _ _ h => HQ.out _ _ _ _ _ h) (Or.inl ⟨by rfl, ?y13d⟩) (by assumption) ?r13d
      case y13d => (intro w hSw; (try dsimp only at hSw); go_simp; (try with_reducible rfl))
      (try simp only [Act.put, List.setIfInBounds_toArray, List.set_cons_zero, List.set_cons_succ])
      refine wpAnyH_take (i := 14) (v := ?v14d) at5_14 (by kernel_rfl) (by kernel_rfl) (by kernel_rfl) (fun _ _ _ h => HQ.out _ _ _ _ _ h) (Or.inl ⟨by rfl, ?y14d⟩) (by assumption) ?r14d
      case y14d => (intro w hSw; (try dsimp only at hSw); go_simp; (try with_reducible rfl))
      (try simp only [Act.put, List.setIfInBounds_toArray, List.set_cons_zero, List.set_cons_succ])
      refine wpAnyH_take (i := 15) (v := undef) at5_15 (by kernel_rfl) (by kernel_rfl) (by kernel_rfl) (fun _ _ _ h => HQ.out _ _ _ _ _ h) (Or.inr ⟨by rfl, rfl⟩) (by assumption) ?_
      (try simp only [Act.put, List.setIfInBounds_toArray, List.set_cons_zero, List.set_cons_succ])
      refine wpAnyH_take (i := 16) (v := undef) at5_16 (by kernel_rfl) (by kernel_rfl) (by kernel_rfl) (fun _ _ _ h => HQ.out _ _ _ _ _ h) (Or.inr ⟨by rfl, rfl⟩) (by assumption) ?_
      (try simp only [Act.put, List.setIfInBounds_toArray, List.set_cons_zero, List.set_cons_succ])
      refine wpAnyH_take (i := 17) (v := undef) at5_17 (by kernel_rfl) (by kernel_rfl) (by kernel_rfl) (fun _ _ _ h => HQ.out _ _ _ _ _ h) (Or.inr ⟨by rfl, rfl⟩) (by assumption) ?_
      (try simp only [Act.put, List.setIfInBounds_toArray, List.set_cons_zero, List.set_cons_succ])
      refine wpAnyH_take (i := 18) (v := undef) at5_18 (by kernel_rfl) (by kernel_rfl) (by kernel_rfl) (fun _ _ _ h => HQ.out _ _ _ _ _ h) (Or.inr ⟨by rfl, rfl⟩) (by assumption) ?_
      (try simp only [Act.put, List.setIfInBounds_toArray, List.set_cons_zero, List.set_cons_succ])
      refine wpAnyH_take (i := 19) (v := undef) at5_19 (by kernel_rfl) (by kernel_rfl) (by kernel_rfl) (fun _ _ _ h => HQ.out _ _ _ _ _ h) (Or.inr ⟨by rfl, rfl⟩) (by assumption) ?_
      (try simp only [Act.put, List.setIfInBounds_toArray, List.set_cons_zero, List.set_cons_succ])
      refine wpAnyH_take (i := 20) (v := undef) at5_20 (by kernel_rfl) (by kernel_rfl) (by kernel_rfl) (fun _ _ _ h => HQ.out _ _ _ _ _ h) (Or.inr ⟨by rfl, rfl⟩) (by assumption) ?_
      (try simp only [Act.put, List.setIfInBounds_toArray, List.set_cons_zero, List.set_cons_succ])
      refine wpAnyH_take (i := 21) (v := undef) at5_21 (by kernel_rfl) (by kernel_rfl) (by kernel_rfl) (fun _ _ _ h => HQ.out _ _ _ _ _ h) (Or.inr ⟨by rfl, rfl⟩) (by assumption) ?_
      (try simp only [Act.put, List.setIfInBounds_toArray, List.set_cons_zero, List.set_cons_succ])
      refine wpAnyH_take (i := 22) (v := undef) at5_22 (by kernel_rfl) (by kernel_rfl) (by kernel_rfl) (fun _ _ _ h => HQ.out _ _ _ _ _ h) (Or.inr ⟨by rfl, rfl⟩) (by assumption) ?_
      (try simp only [Act.put, List.setIfInBounds_toArray, List.set_cons_zero, List.set_cons_succ])
      refine wpAnyH_take (i := 23) (v := ?v23d) at5_23 (by kernel_rfl) (by kernel_rfl) (by kernel_rfl) (fun _ _ _ h => HQ.out _ _ _ _ _ h) (Or.inl ⟨by rfl, ?y23d⟩) (by assumption) ?r23d
      case y23d => (intro w hSw; (try dsimp only at hSw); go_simp; (try with_reducible rfl))
      (try simp only [Act.put, List.setIfInBounds_toArray, List.set_cons_zero, List.set_cons_succ])
      refine wpAnyH_take (i := 24) (v := ?v24d) at5_24 (by kernel_rfl) (by kernel_rfl) (by kernel_rfl) (fun _ _ _ h => HQ.out _ _ _ _ _ h) (Or.inl ⟨by rfl, ?y24d⟩) (by assumption) ?r24d
      case y24d => (intro w hSw; (try dsimp only at hSw); go_simp; (try with_reducible rfl))
      (try simp only [Act.put, List.setIfInBounds_toArray, List.set_cons_zero, List.set_cons_succ])
      refine wpAnyH_done (by kernel_rfl) ?_ _
      exact HK.out _ _ _ _ _ _ _ _ _ _ _ _ _ _ _ _ _ _ _ _ _ _ _ _ _ HR6.out
    · have qk2 : (kd != 2) = true := by simpa using h2
      have q5 := hret h2
      clear h2 hret
      refine wp_region_held_drew (S := fun w' => w'.cell? ⟨d.g, 1, none⟩ = some (.pointer (some ⟨d.u.pp, 0, none⟩)) ∧ w'.cell? ⟨z, 0, none⟩ = some (.int .i64 kd)) (by kernel_rfl) hS0 (fun hHeld => ?_)
      refine wpAnyH_take (i := 0) (v := ?v0e) at5_0 (by kernel_rfl) (by kernel_rfl) (by kernel_rfl) (fun _ _ _ h => HQ.out _ _ _ _ _ h) (Or.inl ⟨by rfl, ?y0e⟩) (by assumption) ?r0e
      case y0e => (intro w hSw; (try dsimp only at hSw); go_simp; (try with_reducible rfl))
      (try simp only [Act.put, List.setIfInBounds_toArray, List.set_cons_zero, List.set_cons_succ])
      refine wpAnyH_take (i := 1) (v := ?v1e) at5_1 (by kernel_rfl) (by kernel_rfl) (by kernel_rfl) (fun _ _ _ h => HQ.out _ _ _ _ _ h) (Or.inl ⟨by rfl, ?y1e⟩) (by assumption) ?r1e
      case y1e => (intro w hSw; (try dsimp only at hSw); go_simp; (try with_reducible rfl))
      (try simp only [Act.put, List.setIfInBounds_toArray, List.set_cons_zero, List.set_cons_succ])
      refine wpAnyH_take (i := 2) (v := ?v2e) at5_2 (by kernel_rfl) (by kernel_rfl) (by kernel_rfl) (fun _ _ _ h => HQ.out _ _ _ _ _ h) (Or.inl ⟨by rfl, ?y2e⟩) (by assumption) ?r2e
      case y2e => (intro w hSw; (try dsimp only at hSw); go_simp; (try with_reducible rfl))
      (try simp only [Act.put, List.setIfInBounds_toArray, List.set_cons_zero, List.set_cons_succ])
      refine wpAnyH_take (i := 3) (v := ?v3e) at5_3 (by kernel_rfl) (by kernel_rfl) (by kernel_rfl) (fun _ _ _ h => HQ.out _ _ _ _ _ h) (Or.inl ⟨by rfl, ?y3e⟩) (by assumption) ?r3e
      case y3e => (intro w hSw; (try dsimp only at hSw); go_simp; (try with_reducible rfl))
      (try simp only [Act.put, List.setIfInBounds_toArray, List.set_cons_zero, List.set_cons_succ])
      refine wpAnyH_take (i := 4) (v := ?v4e) at5_4 (by kernel_rfl) (by kernel_rfl) (by kernel_rfl) (fun _ _ _ h => HQ.out _ _ _ _ _ h) (Or.inl ⟨by rfl, ?y4e⟩) (by assumption) ?r4e
      case y4e => (intro w hSw; (try dsimp only at hSw); go_simp; (try with_reducible rfl))
      (try simp only [Act.put, List.setIfInBounds_toArray, List.set_cons_zero, List.set_cons_succ])
      refine wpAnyH_take (i := 5) (v := ?v5e) at5_5 (by kernel_rfl) (by kernel_rfl) (by kernel_rfl) (fun _ _ _ h => HQ.out _ _ _ _ _ h) (Or.inl ⟨by rfl, ?y5e⟩) (by assumption) ?r5e
      case y5e => (intro w hSw; (try dsimp only at hSw); go_simp; (try with_reducible rfl))
      (try simp only [Act.put, List.setIfInBounds_toArray, List.set_cons_zero, List.set_cons_succ])
      refine wpAnyH_take (i := 6) (v := ?v6e) at5_6 (by kernel_rfl) (by kernel_rfl) (by kernel_rfl) (fun _ _ _ h => HQ.out _ _ _ _ _ h) (Or.inl ⟨by rfl, ?y6e⟩) (by assumption) ?r6e
      case y6e => (intro w hSw; (try dsimp only at hSw); go_simp; (try with_reducible rfl))
      (try simp only [Act.put, List.setIfInBounds_toArray, List.set_cons_zero, List.set_cons_succ])
      refine wpAnyH_ready (rs := [7]) (by kernel_rfl) (by simp) ?_
      refine AllReadyH.cons at5_7 (fun K hK => ?_) AllReadyH.nil
      go_simp
      refine (H31b.out _ HBD).mono ?_
      rintro e1 w6 ⟨rfl, hS6, HR6⟩
      go_wp2_with fail
      refine hK.out _ _ hS6 (fun hHeld2 => ?_)
      clear hK K hHeld
      have hHeld := hHeld2
      clear hHeld2
      (try simp only [Act.put, List.setIfInBounds_toArray, List.set_cons_zero, List.set_cons_succ])
      refine wpAnyH_take (i := 8) (v := ?v8e) at5_8 (by kernel_rfl) (by kernel_rfl) (by kernel_rfl) (fun _ _ _ h => HQ.out _ _ _ _ _ h) (Or.inl ⟨by rfl, ?y8e⟩) (by assumption) ?r8e
      case y8e => (intro w hSw; (try dsimp only at hSw); go_simp; (try with_reducible rfl))
      (try simp only [Act.put, List.setIfInBounds_toArray, List.set_cons_zero, List.set_cons_succ])
      refine wpAnyH_take (i := 9) (v := ?v9e) at5_9 (by kernel_rfl) (by kernel_rfl) (by kernel_rfl) (fun _ _ _ h => HQ.out _ _ _ _ _ h) (Or.inl ⟨by rfl, ?y9e⟩) (by assumption) ?r9e
      case y9e => (intro w hSw; (try dsimp only at hSw); go_simp; (try with_reducible rfl))
      (try simp only [Act.put, List.setIfInBounds_toArray, List.set_cons_zero, List.set_cons_succ])
      refine wpAnyH_take (i := 10) (v := ?v10e) at5_10 (by kernel_rfl) (by kernel_rfl) (by kernel_rfl) (fun _ _ _ h => HQ.out _ _ _ _ _ h) (Or.inl ⟨by rfl, ?y10e⟩) (by assumption) ?r10e
      case y10e => (intro w hSw; (try dsimp only at hSw); go_simp; (try with_reducible rfl))
      (try simp only [Act.put, List.setIfInBounds_toArray, List.set_cons_zero, List.set_cons_succ])
      refine wpAnyH_take (i := 11) (v := ?v11e) at5_11 (by kernel_rfl) (by kernel_rfl) (by kernel_rfl) (fun _ _ _ h => HQ.out _ _ _ _ _ h) (Or.inl ⟨by rfl, ?y11e⟩) (by assumption) ?r11e
      case y11e => (intro w hSw; (try dsimp only at hSw); go_simp; (try with_reducible rfl))
      (try simp only [Act.put, List.setIfInBounds_toArray, List.set_cons_zero, List.set_cons_succ])
      refine wpAnyH_take (i := 12) (v := ?v12e) at5_12 (by kernel_rfl) (by kernel_rfl) (by kernel_rfl) (fun _ _ _ h => HQ.out _ _ _ _ _ h) (Or.inl ⟨by rfl, ?y12e⟩) (by assumption) ?r12e
      case y12e => (intro w hSw; (try dsimp only at hSw); go_simp; (try with_reducible rfl))
      (try simp only [Act.put, List.setIfInBounds_toArray, List.set_cons_zero, List.set_cons_succ])
      refine wpAnyH_take (i := 13) (v := ?v13e) at5_13 (by kernel_rfl) (by kernel_rfl) (by kernel_rfl) (fun _ _ _ h => HQ.out _ _ _ _ _ h) (Or.inl ⟨by rfl, ?y13e⟩) (by assumption) ?r13e
      case y13e => (intro w hSw; (try dsimp only at hSw); go_simp; (try with_reducible rfl))
      (try simp only [Act.put, List.setIfInBounds_toArray, List.set_cons_zero, List.set_cons_succ])
      refine wpAnyH_take (i := 14) (v := ?v14e) at5_14 (by kernel_rfl) (by kernel_rfl) (by kernel_rfl) (fun _ _ _ h => HQ.out _ _ _ _ _ h) (Or.inl ⟨by rfl, ?y14e⟩) (by assumption) ?r14e
      case y14e => (intro w hSw; (try dsimp only at hSw); go_simp; (try with_reducible rfl))
      (try simp only [Act.put, List.setIfInBounds_toArray, List.set_cons_zero, List.set_cons_succ])
      refine wpAnyH_take (i := 15) (v := ?v15e) at5_15 (by kernel_rfl) (by kernel_rfl) (by kernel_rfl) (fun _ _ _ h => HQ.out _ _ _ _ _ h) (Or.inl ⟨by rfl, ?y15e⟩) (by assumption) ?r15e
      case y15e => (intro w hSw; (try dsimp only at hSw); go_simp; (try with_reducible rfl))
      (try simp only [Act.put, List.setIfInBounds_toArray, List.set_cons_zero, List.set_cons_succ])
      refine wpAnyH_take (i := 17) (v := ?v17e) at5_17 (by kernel_rfl) (by kernel_rfl) (by kernel_rfl) (fun _ _ _ h => HQ.out _ _ _ _ _ h) (Or.inl ⟨by rfl, ?y17e⟩) (by assumption) ?r17e
      case y17e => (intro w hSw; (try dsimp only at hSw); go_simp; (try with_reducible rfl))
      (try simp only [Act.put, List.setIfInBounds_toArray, List.set_cons_zero, List.set_cons_succ])
      refine wpAnyH_take (i := 18) (v := ?v18e) at5_18 (by kernel_rfl) (by kernel_rfl) (by kernel_rfl) (fun _ _ _ h => HQ.out _ _ _ _ _ h) (Or.inl ⟨by rfl, ?y18e⟩) (by assumption) ?r18e
      case y18e => (intro w hSw; (try dsimp only at hSw); go_simp; (try with_reducible rfl))
      (try simp only [Act.put, List.setIfInBounds_toArray, List.set_cons_zero, List.set_cons_succ])
      refine wpAnyH_take (i := 19) (v := ?v19e) at5_19 (by kernel_rfl) (by kernel_rfl) (by kernel_rfl) (fun _ _ _ h => HQ.out _ _ _ _ _ h) (Or.inl ⟨by rfl, ?y19e⟩) (by assumption) ?r19e
      case y19e => (intro w hSw; (try dsimp only at hSw); go_simp; (try with_reducible rfl))
      (try simp only [Act.put, List.setIfInBounds_toArray, List.set_cons_zero, List.set_cons_succ])
      refine wpAnyH_take (i := 20) (v := ?v20e) at5_20 (by kernel_rfl) (by kernel_rfl) (by kernel_rfl) (fun _ _ _ h => HQ.out _ _ _ _ _ h) (Or.inl ⟨by rfl, ?y20e⟩) (by assumption) ?r20e
      case y20e => (intro w hSw; (try dsimp only at hSw); go_simp; (try with_reducible rfl))
      (try simp only [Act.put, List.setIfInBounds_toArray, List.set_cons_zero, List.set_cons_succ])
      refine wpAnyH_ready (rs := [16]) (by kernel_rfl) (by simp) ?_
      refine AllReadyH.cons at5_16 (fun K hK => ?_) AllReadyH.nil
      go_simp
      refine (H31a.out _ HR6).mono ?_
      rintro e1 w7 ⟨rfl, hS7, HR7⟩
      go_wp2_with fail
      refine hK.out _ _ hS7 (fun hHeld2 => ?_)
      clear hK K hHeld
      have hHeld := hHeld2
      clear hHeld2
      (try simp only [Act.put, List.setIfInBounds_toArray, List.set_cons_zero, List.set_cons_succ])
      refine wpAnyH_ready (rs := [21]) (by kernel_rfl) (by simp) ?_
      refine AllReadyH.cons at5_21 (fun K hK => ?_) AllReadyH.nil
      go_simp
      refine (H31c.out _ HR7).mono ?_
      rintro e1 w8 ⟨rfl, hS8, HR8⟩
      go_wp2_with fail
      refine hK.out _ _ hS8 (fun hHeld2 => ?_)
      clear hK K hHeld
      have hHeld := hHeld2
      clear hHeld2
      (try simp only [Act.put, List.setIfInBounds_toArray, List.set_cons_zero, List.set_cons_succ])
      refine wpAnyH_take (i := 22) (v := ?v22e) at5_22 (by kernel_rfl) (by kernel_rfl) (by kernel_rfl) (fun _ _ _ h => HQ.out _ _ _ _ _ h) (Or.inl ⟨by rfl, ?y22e⟩) (by assumption) ?r22e
      case y22e => (intro w hSw; (try dsimp only at hSw); go_simp; (try with_reducible rfl))
      (try simp only [Act.put, List.setIfInBounds_toArray, List.set_cons_zero, List.set_cons_succ])
      refine wpAnyH_take (i := 23) (v := ?v23e) at5_23 (by kernel_rfl) (by kernel_rfl) (by kernel_rfl) (fun _ _ _ h => HQ.out _ _ _ _ _ h) (Or.inl ⟨by rfl, ?y23e⟩) (by assumption) ?r23e
      case y23e => (intro w hSw; (try dsimp only at hSw); go_simp; (try with_reducible rfl))
      (try simp only [Act.put, List.setIfInBounds_toArray, List.set_cons_zero, List.set_cons_succ])
      refine wpAnyH_take (i := 24) (v := ?v24e) at5_24 (by kernel_rfl) (by kernel_rfl) (by kernel_rfl) (fun _ _ _ h => HQ.out _ _ _ _ _ h) (Or.inl ⟨by rfl, ?y24e⟩) (by assumption) ?r24e
      case y24e => (intro w hSw; (try dsimp only at hSw); go_simp; (try with_reducible rfl))
      (try simp only [Act.put, List.setIfInBounds_toArray, List.set_cons_zero, List.set_cons_succ])
      refine wpAnyH_done (by kernel_rfl) ?_ _
      exact HK.out _ _ _ _ _ _ _ _ _ _ _ _ _ _ _ _ _ _ _ _ _ _ _ _ _ HR8.out
  · have q12 : (e == 12) = false := by simpa using h12
    clear h12 hfew
    by_cases h2 : kd = 2
    · have qk2 : (kd != 2) = false := by simp [h2]
      clear h2 hret
      refine wp_region_held_drew (S := fun w' => w'.cell? ⟨d.g, 1, none⟩ = some (.pointer (some ⟨d.u.pp, 0, none⟩)) ∧ w'.cell? ⟨z, 0, none⟩ = some (.int .i64 kd)) (by kernel_rfl) hS0 (fun hHeld => ?_)
      refine wpAnyH_take (i := 0) (v := ?v0f) at5_0 (by kernel_rfl) (by kernel_rfl) (by kernel_rfl) (fun _ _ _ h => HQ.out _ _ _ _ _ h) (Or.inl ⟨by rfl, ?y0f⟩) (by assumption) ?r0f
      case y0f => (intro w hSw; (try dsimp only at hSw); go_simp; (try with_reducible rfl))
      (try simp only [Act.put, List.setIfInBounds_toArray, List.set_cons_zero, List.set_cons_succ])
      refine wpAnyH_take (i := 1) (v := ?v1f) at5_1 (by kernel_rfl) (by kernel_rfl) (by kernel_rfl) (fun _ _ _ h => HQ.out _ _ _ _ _ h) (Or.inl ⟨by rfl, ?y1f⟩) (by assumption) ?r1f
      case y1f => (intro w hSw; (try dsimp only at hSw); go_simp; (try with_reducible rfl))
      (try simp only [Act.put, List.setIfInBounds_toArray, List.set_cons_zero, List.set_cons_succ])
      refine wpAnyH_take (i := 2) (v := ?v2f) at5_2 (by kernel_rfl) (by kernel_rfl) (by kernel_rfl) (fun _ _ _ h => HQ.out _ _ _ _ _ h) (Or.inl ⟨by rfl, ?y2f⟩) (by assumption) ?r2f
      case y2f => (intro w hSw; (try dsimp only at hSw); go_simp; (try with_reducible rfl))
      (try simp only [Act.put, List.setIfInBounds_toArray, List.set_cons_zero, List.set_cons_succ])
      refine wpAnyH_take (i := 3) (v := undef) at5_3 (by kernel_rfl) (by kernel_rfl) (by kernel_rfl) (fun _ _ _ h => HQ.out _ _ _ _ _ h) (Or.inr ⟨by rfl, rfl⟩) (by assumption) ?_
      (try simp only [Act.put, List.setIfInBounds_toArray, List.set_cons_zero, List.set_cons_succ])
      refine wpAnyH_take (i := 4) (v := undef) at5_4 (by kernel_rfl) (by kernel_rfl) (by kernel_rfl) (fun _ _ _ h => HQ.out _ _ _ _ _ h) (Or.inr ⟨by rfl, rfl⟩) (by assumption) ?_
      (try simp only [Act.put, List.setIfInBounds_toArray, List.set_cons_zero, List.set_cons_succ])
      refine wpAnyH_take (i := 5) (v := undef) at5_5 (by kernel_rfl) (by kernel_rfl) (by kernel_rfl) (fun _ _ _ h => HQ.out _ _ _ _ _ h) (Or.inr ⟨by rfl, rfl⟩) (by assumption) ?_
      (try simp only [Act.put, List.setIfInBounds_toArray, List.set_cons_zero, List.set_cons_succ])
      refine wpAnyH_take (i := 6) (v := undef) at5_6 (by kernel_rfl) (by kernel_rfl) (by kernel_rfl) (fun _ _ _ h => HQ.out _ _ _ _ _ h) (Or.inr ⟨by rfl, rfl⟩) (by assumption) ?_
      (try simp only [Act.put, List.setIfInBounds_toArray, List.set_cons_zero, List.set_cons_succ])
      refine wpAnyH_take (i := 7) (v := undef) at5_7 (by kernel_rfl) (by kernel_rfl) (by kernel_rfl) (fun _ _ _ h => HQ.out _ _ _ _ _ h) (Or.inr ⟨by rfl, rfl⟩) (by assumption) ?_
      (try simp only [Act.put, List.setIfInBounds_toArray, List.set_cons_zero, List.set_cons_succ])
      refine wpAnyH_take (i := 8) (v := undef) at5_8 (by kernel_rfl) (by kernel_rfl) (by kernel_rfl) (fun _ _ _ h => HQ.out _ _ _ _ _ h) (Or.inr ⟨by rfl, rfl⟩) (by assumption) ?_
      (try simp only [Act.put, List.setIfInBounds_toArray, List.set_cons_zero, List.set_cons_succ])
      refine wpAnyH_take (i := 9) (v := ?v9f) at5_9 (by kernel_rfl) (by kernel_rfl) (by kernel_rfl) (fun _ _ _ h => HQ.out _ _ _ _ _ h) (Or.inl ⟨by rfl, ?y9f⟩) (by assumption) ?r9f
      case y9f => (intro w hSw; (try dsimp only at hSw); go_simp; (try with_reducible rfl))
      (try simp only [Act.put, List.setIfInBounds_toArray, List.set_cons_zero, List.set_cons_succ])
      refine wpAnyH_take (i := 10) (v := ?v10f) at5_10 (by kernel_rfl) (by kernel_rfl) (by kernel_rfl) (fun _ _ _ h => HQ.out _ _ _ _ _ h) (Or.inl ⟨by rfl, ?y10f⟩) (by assumption) ?r10f
      case y10f => (intro w hSw; (try dsimp only at hSw); go_simp; (try with_reducible rfl))
      (try simp only [Act.put, List.setIfInBounds_toArray, List.set_cons_zero, List.set_cons_succ])
      refine wpAnyH_take (i := 11) (v := ?v11f) at5_11 (by kernel_rfl) (by kernel_rfl) (by kernel_rfl) (fun _ _ _ h => HQ.out _ _ _ _ _ h) (Or.inl ⟨by rfl, ?y11f⟩) (by assumption) ?r11f
      case y11f => (intro w hSw; (try dsimp only at hSw); go_simp; (try with_reducible rfl))
      (try simp only [Act.put, List.setIfInBounds_toArray, List.set_cons_zero, List.set_cons_succ])
      refine wpAnyH_take (i := 12) (v := ?v12f) at5_12 (by kernel_rfl) (by kernel_rfl) (by kernel_rfl) (fun _ _ _ h => HQ.out _ _ _ _ _ h) (Or.inl ⟨by rfl, ?y12f⟩) (by assumption) ?r12f
      case y12f => (intro w hSw; (try dsimp only at hSw); go_simp; (try with_reducible rfl))
      (try simp only [Act.put, List.setIfInBounds_toArray, List.set_cons_zero, List.set_cons_succ])
      refine wpAnyH_take (i := 13) (v := ?v13f) at5_13 (by kernel_rfl) (by kernel_rfl) (by kernel_rfl) (fun _ _ _ h => HQ.out _ _ _ _ _ h) (Or.inl ⟨by rfl, ?y13f⟩) (by assumption) ?r13f
      case y13f => (intro w hSw; (try dsimp only at hSw); go_simp; (try with_reducible rfl))
      (try simp only [Act.put, List.setIfInBounds_toArray, List.set_cons_zero, List.set_cons_succ])
      refine wpAnyH_take (i := 14) (v := ?v14f) at5_14 (by kernel_rfl) (by kernel_rfl) (by kernel_rfl) (fun _ _ _ h => HQ.out _ _ _ _ _ h) (Or.inl ⟨by rfl, ?y14f⟩) (by assumption) ?r14f
      case y14f => (intro w hSw; (try dsimp only at hSw); go_simp; (try with_reducible rfl))
      (try simp only [Act.put, List.setIfInBounds_toArray, List.set_cons_zero, List.set_cons_succ])
      refine wpAnyH_take (i := 15) (v := undef) at5_15 (by kernel_rfl) (by kernel_rfl) (by kernel_rfl) (fun _ _ _ h => HQ.out _ _ _ _ _ h) (Or.inr ⟨by rfl, rfl⟩) (by assumption) ?_
      (try simp only [Act.put, List.setIfInBounds_toArray, List.set_cons_zero, List.set_cons_succ])
      refine wpAnyH_take (i := 16) (v := undef) at5_16 (by kernel_rfl) (by kernel_rfl) (by kernel_rfl) (fun _ _ _ h => HQ.out _ _ _ _ _ h) (Or.inr ⟨by rfl, rfl⟩) (by assumption) ?_
      (try simp only [Act.put, List.setIfInBounds_toArray, List.set_cons_zero, List.set_cons_succ])
      refine wpAnyH_take (i := 17) (v := undef) at5_17 (by kernel_rfl) (by kernel_rfl) (by kernel_rfl) (fun _ _ _ h => HQ.out _ _ _ _ _ h) (Or.inr ⟨by rfl, rfl⟩) (by assumption) ?_
      (try simp only [Act.put, List.setIfInBounds_toArray, List.set_cons_zero, List.set_cons_succ])
      refine wpAnyH_take (i := 18) (v := undef) at5_18 (by kernel_rfl) (by kernel_rfl) (by kernel_rfl) (fun _ _ _ h => HQ.out _ _ _ _ _ h) (Or.inr ⟨by rfl, rfl⟩) (by assumption) ?_
      (try simp only [Act.put, List.setIfInBounds_toArray, List.set_cons_zero, List.set_cons_succ])
      refine wpAnyH_take (i := 19) (v := undef) at5_19 (by kernel_rfl) (by kernel_rfl) (by kernel_rfl) (fun _ _ _ h => HQ.out _ _ _ _ _ h) (Or.inr ⟨by rfl, rfl⟩) (by assumption) ?_
      (try simp only [Act.put, List.setIfInBounds_toArray, List.set_cons_zero, List.set_cons_succ])
      refine wpAnyH_take (i := 20) (v := undef) at5_20 (by kernel_rfl) (by kernel_rfl) (by kernel_rfl) (fun _ _ _ h => HQ.out _ _ _ _ _ h) (Or.inr ⟨by rfl, rfl⟩) (by assumption) ?_
      (try simp only [Act.put, List.setIfInBounds_toArray, List.set_cons_zero, List.set_cons_succ])
      refine wpAnyH_take (i := 21) (v := undef) at5_21 (by kernel_rfl) (by kernel_rfl) (by kernel_rfl) (fun _ _ _ h => HQ.out _ _ _ _ _ h) (Or.inr ⟨by rfl, rfl⟩) (by assumption) ?_
      (try simp only [Act.put, List.setIfInBounds_toArray, List.set_cons_zero, List.set_cons_succ])
      refine wpAnyH_take (i := 22) (v := undef) at5_22 (by kernel_rfl) (by kernel_rfl) (by kernel_rfl) (fun _ _ _ h => HQ.out _ _ _ _ _ h) (Or.inr ⟨by rfl, rfl⟩) (by assumption) ?_
      (try simp only [Act.put, List.setIfInBounds_toArray, List.set_cons_zero, List.set_cons_succ])
      refine wpAnyH_take (i := 23) (v := ?v23f) at5_23 (by kernel_rfl) (by kernel_rfl) (by kernel_rfl) (fun _ _ _ h => HQ.out _ _ _ _ _ h) (Or.inl ⟨by rfl, ?y23f⟩) (by assumption) ?r23f
      case y23f => (intro w hSw; (try dsimp only at hSw); go_simp; (try with_reducible rfl))
      (try simp only [Act.put, List.setIfInBounds_toArray, List.set_cons_zero, List.set_cons_succ])
      refine wpAnyH_take (i := 24) (v := ?v24f) at5_24 (by kernel_rfl) (by kernel_rfl) (by kernel_rfl) (fun _ _ _ h => HQ.out _ _ _ _ _ h) (Or.inl ⟨by rfl, ?y24f⟩) (by assumption) ?r24f
      case y24f => (intro w hSw; (try dsimp only at hSw); go_simp; (try with_reducible rfl))
      (try simp only [Act.put, List.setIfInBounds_toArray, List.set_cons_zero, List.set_cons_succ])
      refine wpAnyH_done (by kernel_rfl) ?_ _
      exact HK.out _ _ _ _ _ _ _ _ _ _ _ _ _ _ _ _ _ _ _ _ _ _ _ _ _ HBD.out
    · have qk2 : (kd != 2) = true := by simpa using h2
      have q5 := hret h2
      clear h2 hret
      refine wp_region_held_drew (S := fun w' => w'.cell? ⟨d.g, 1, none⟩ = some (.pointer (some ⟨d.u.pp, 0, none⟩)) ∧ w'.cell? ⟨z, 0, none⟩ = some (.int .i64 kd)) (by kernel_rfl) hS0 (fun hHeld => ?_)
      refine wpAnyH_take (i := 0) (v := ?v0g) at5_0 (by kernel_rfl) (by kernel_rfl) (by kernel_rfl) (fun _ _ _ h => HQ.out _ _ _ _ _ h) (Or.inl ⟨by rfl, ?y0g⟩) (by assumption) ?r0g
      case y0g => (intro w hSw; (try dsimp only at hSw); go_simp; (try with_reducible rfl))
      (try simp only [Act.put, List.setIfInBounds_toArray, List.set_cons_zero, List.set_cons_succ])
      refine wpAnyH_take (i := 1) (v := ?v1g) at5_1 (by kernel_rfl) (by kernel_rfl) (by kernel_rfl) (fun _ _ _ h => HQ.out _ _ _ _ _ h) (Or.inl ⟨by rfl, ?y1g⟩) (by assumption) ?r1g
      case y1g => (intro w hSw; (try dsimp only at hSw); go_simp; (try with_reducible rfl))
      (try simp only [Act.put, List.setIfInBounds_toArray, List.set_cons_zero, List.set_cons_succ])
      refine wpAnyH_take (i := 2) (v := ?v2g) at5_2 (by kernel_rfl) (by kernel_rfl) (by kernel_rfl) (fun _ _ _ h => HQ.out _ _ _ _ _ h) (Or.inl ⟨by rfl, ?y2g⟩) (by assumption) ?r2g
      case y2g => (intro w hSw; (try dsimp only at hSw); go_simp; (try with_reducible rfl))
      (try simp only [Act.put, List.setIfInBounds_toArray, List.set_cons_zero, List.set_cons_succ])
      refine wpAnyH_take (i := 3) (v := undef) at5_3 (by kernel_rfl) (by kernel_rfl) (by kernel_rfl) (fun _ _ _ h => HQ.out _ _ _ _ _ h) (Or.inr ⟨by rfl, rfl⟩) (by assumption) ?_
      (try simp only [Act.put, List.setIfInBounds_toArray, List.set_cons_zero, List.set_cons_succ])
      refine wpAnyH_take (i := 4) (v := undef) at5_4 (by kernel_rfl) (by kernel_rfl) (by kernel_rfl) (fun _ _ _ h => HQ.out _ _ _ _ _ h) (Or.inr ⟨by rfl, rfl⟩) (by assumption) ?_
      (try simp only [Act.put, List.setIfInBounds_toArray, List.set_cons_zero, List.set_cons_succ])
      refine wpAnyH_take (i := 5) (v := undef) at5_5 (by kernel_rfl) (by kernel_rfl) (by kernel_rfl) (fun _ _ _ h => HQ.out _ _ _ _ _ h) (Or.inr ⟨by rfl, rfl⟩) (by assumption) ?_
      (try simp only [Act.put, List.setIfInBounds_toArray, List.set_cons_zero, List.set_cons_succ])
      refine wpAnyH_take (i := 6) (v := undef) at5_6 (by kernel_rfl) (by kernel_rfl) (by kernel_rfl) (fun _ _ _ h => HQ.out _ _ _ _ _ h) (Or.inr ⟨by rfl, rfl⟩) (by assumption) ?_
      (try simp only [Act.put, List.setIfInBounds_toArray, List.set_cons_zero, List.set_cons_succ])
      refine wpAnyH_take (i := 7) (v := undef) at5_7 (by kernel_rfl) (by kernel_rfl) (by kernel_rfl) (fun _ _ _ h => HQ.out _ _ _ _ _ h) (Or.inr ⟨by rfl, rfl⟩) (by assumption) ?_
      (try simp only [Act.put, List.setIfInBounds_toArray, List.set_cons_zero, List.set_cons_succ])
      refine wpAnyH_take (i := 8) (v := undef) at5_8 (by kernel_rfl) (by kernel_rfl) (by kernel_rfl) (fun _ _ _ h => HQ.out _ _ _ _ _ h) (Or.inr ⟨by rfl, rfl⟩) (by assumption) ?_
      (try simp only [Act.put, List.setIfInBounds_toArray, List.set_cons_zero, List.set_cons_succ])
      refine wpAnyH_take (i := 9) (v := ?v9g) at5_9 (by kernel_rfl) (by kernel_rfl) (by kernel_rfl) (fun _ _ _ h => HQ.out _ _ _ _ _ h) (Or.inl ⟨by rfl, ?y9g⟩) (by assumption) ?r9g
      case y9g => (intro w hSw; (try dsimp only at hSw); go_simp; (try with_reducible rfl))
      (try simp only [Act.put, List.setIfInBounds_toArray, List.set_cons_zero, List.set_cons_succ])
      refine wpAnyH_take (i := 10) (v := ?v10g) at5_10 (by kernel_rfl) (by kernel_rfl) (by kernel_rfl) (fun _ _ _ h => HQ.out _ _ _ _ _ h) (Or.inl ⟨by rfl, ?y10g⟩) (by assumption) ?r10g
      case y10g => (intro w hSw; (try dsimp only at hSw); go_simp; (try with_reducible rfl))
      (try simp only [Act.put, List.setIfInBounds_toArray, List.set_cons_zero, List.set_cons_succ])
      refine wpAnyH_take (i := 11) (v := ?v11g) at5_11 (by kernel_rfl) (by kernel_rfl) (by kernel_rfl) (fun _ _ _ h => HQ.out _ _ _ _ _ h) (Or.inl ⟨by rfl, ?y11g⟩) (by assumption) ?r11g
      case y11g => (intro w hSw; (try dsimp only at hSw); go_simp; (try with_reducible rfl))
      (try simp only [Act.put, List.setIfInBounds_toArray, List.set_cons_zero, List.set_cons_succ])
      refine wpAnyH_take (i := 12) (v := ?v12g) at5_12 (by kernel_rfl) (by kernel_rfl) (by kernel_rfl) (fun _ _ _ h => HQ.out _ _ _ _ _ h) (Or.inl ⟨by rfl, ?y12g⟩) (by assumption) ?r12g
      case y12g => (intro w hSw; (try dsimp only at hSw); go_simp; (try with_reducible rfl))
      (try simp only [Act.put, List.setIfInBounds_toArray, List.set_cons_zero, List.set_cons_succ])
      refine wpAnyH_take (i := 13) (v := ?v13g) at5_13 (by kernel_rfl) (by kernel_rfl) (by kernel_rfl) (fun _ _ _ h => HQ.out _ _ _ _ _ h) (Or.inl ⟨by rfl, ?y13g⟩) (by assumption) ?r13g
      case y13g => (intro w hSw; (try dsimp only at hSw); go_simp; (try with_reducible rfl))
      (try simp only [Act.put, List.setIfInBounds_toArray, List.set_cons_zero, List.set_cons_succ])
      refine wpAnyH_take (i := 14) (v := ?v14g) at5_14 (by kernel_rfl) (by kernel_rfl) (by kernel_rfl) (fun _ _ _ h => HQ.out _ _ _ _ _ h) (Or.inl ⟨by rfl, ?y14g⟩) (by assumption) ?r14g
      case y14g => (intro w hSw; (try dsimp only at hSw); go_simp; (try with_reducible rfl))
      (try simp only [Act.put, List.setIfInBounds_toArray, List.set_cons_zero, List.set_cons_succ])
      refine wpAnyH_take (i := 15) (v := ?v15g) at5_15 (by kernel_rfl) (by kernel_rfl) (by kernel_rfl) (fun _ _ _ h => HQ.out _ _ _ _ _ h) (Or.inl ⟨by rfl, ?y15g⟩) (by assumption) ?r15g
      case y15g => (intro w hSw; (try dsimp only at hSw); go_simp; (try with_reducible rfl))
      (try simp only [Act.put, List.setIfInBounds_toArray, List.set_cons_zero, List.set_cons_succ])
      refine wpAnyH_take (i := 17) (v := ?v17g) at5_17 (by kernel_rfl) (by kernel_rfl) (by kernel_rfl) (fun _ _ _ h => HQ.out _ _ _ _ _ h) (Or.inl ⟨by rfl, ?y17g⟩) (by assumption) ?r17g
      case y17g => (intro w hSw; (try dsimp only at hSw); go_simp; (try with_reducible rfl))
      (try simp only [Act.put, List.setIfInBounds_toArray, List.set_cons_zero, List.set_cons_succ])
      refine wpAnyH_take (i := 18) (v := ?v18g) at5_18 (by kernel_rfl) (by kernel_rfl) (by kernel_rfl) (fun _ _ _ h => HQ.out _ _ _ _ _ h) (Or.inl ⟨by rfl, ?y18g⟩) (by assumption) ?r18g
      case y18g => (intro w hSw; (try dsimp only at hSw); go_simp; (try with_reducible rfl))
      (try simp only [Act.put, List.setIfInBounds_toArray, List.set_cons_zero, List.set_cons_succ])
      refine wpAnyH_take (i := 19) (v := ?v19g) at5_19 (by kernel_rfl) (by kernel_rfl) (by kernel_rfl) (fun _ _ _ h => HQ.out _ _ _ _ _ h) (Or.inl ⟨by rfl, ?y19g⟩) (by assumption) ?r19g
      case y19g => (intro w hSw; (try dsimp only at hSw); go_simp; (try with_reducible rfl))
      (try simp only [Act.put, List.setIfInBounds_toArray, List.set_cons_zero, List.set_cons_succ])
      refine wpAnyH_take (i := 20) (v := ?v20g) at5_20 (by kernel_rfl) (by kernel_rfl) (by kernel_rfl) (fun _ _ _ h => HQ.out _ _ _ _ _ h) (Or.inl ⟨by rfl, ?y20g⟩) (by assumption) ?r20g
      case y20g => (intro w hSw; (try dsimp only at hSw); go_simp; (try with_reducible rfl))
      (try simp only [Act.put, List.setIfInBounds_toArray, List.set_cons_zero, List.set_cons_succ])
      refine wpAnyH_ready (rs := [16]) (by kernel_rfl) (by simp) ?_
      refine AllReadyH.cons at5_16 (fun K hK => ?_) AllReadyH.nil
      go_simp
      refine (H31a.out _ HBD).mono ?_
      rintro e1 w6 ⟨rfl, hS6, HR6⟩
      go_wp2_with fail
      refine hK.out _ _ hS6 (fun hHeld2 => ?_)
      clear hK K hHeld
      have hHeld := hHeld2
      clear hHeld2
      (try simp only [Act.put, List.setIfInBounds_toArray, List.set_cons_zero, List.set_cons_succ])
      refine wpAnyH_ready (rs := [21]) (by kernel_rfl) (by simp) ?_
      refine AllReadyH.cons at5_21 (fun K hK => ?_) AllReadyH.nil
      go_simp
      refine (H31c.out _ HR6).mono ?_
      rintro e1 w7 ⟨rfl, hS7, HR7⟩
      go_wp2_with fail
      refine hK.out _ _ hS7 (fun hHeld2 => ?_)
      clear hK K hHeld
      have hHeld := hHeld2
      clear hHeld2
      (try simp only [Act.put, List.setIfInBounds_toArray, List.set_cons_zero, List.set_cons_succ])
      refine wpAnyH_take (i := 22) (v := ?v22g) at5_22 (by kernel_rfl) (by kernel_rfl) (by kernel_rfl) (fun _ _ _ h => HQ.out _ _ _ _ _ h) (Or.inl ⟨by rfl, ?y22g⟩) (by assumption) ?r22g
      case y22g => (intro w hSw; (try dsimp only at hSw); go_simp; (try with_reducible rfl))
      (try simp only [Act.put, List.setIfInBounds_toArray, List.set_cons_zero, List.set_cons_succ])
      refine wpAnyH_take (i := 23) (v := ?v23g) at5_23 (by kernel_rfl) (by kernel_rfl) (by kernel_rfl) (fun _ _ _ h => HQ.out _ _ _ _ _ h) (Or.inl ⟨by rfl, ?y23g⟩) (by assumption) ?r23g
      case y23g => (intro w hSw; (try dsimp only at hSw); go_simp; (try with_reducible rfl))
      (try simp only [Act.put, List.setIfInBounds_toArray, List.set_cons_zero, List.set_cons_succ])
      refine wpAnyH_take (i := 24) (v := ?v24g) at5_24 (by kernel_rfl) (by kernel_rfl) (by kernel_rfl) (fun _ _ _ h => HQ.out _ _ _ _ _ h) (Or.inl ⟨by rfl, ?y24g⟩) (by assumption) ?r24g
      case y24g => (intro w hSw; (try dsimp only at hSw); go_simp; (try with_reducible rfl))
      (try simp only [Act.put, List.setIfInBounds_toArray, List.set_cons_zero, List.set_cons_succ])
      refine wpAnyH_done (by kernel_rfl) ?_ _
      exact HK.out _ _ _ _ _ _ _ _ _ _ _ _ _ _ _ _ _ _ _ _ _ _ _ _ _ HR7.out
end Go.Proofs.YtpfmmlbakbhklaaGreatDoor
namespace Go.Proofs.YtpfmmlbakbhklaaGreatDoor
open Go.RowKit
set_option maxRecDepth 100000 in
set_option maxHeartbeats 8000000 in
theorem f3b {Q : Exit → Act → World → Prop} {w0 w : World} {d : Sd} {s s' : Sm} {k' pm bm qp gp z : Nat} {kd wh pg fm rt e : Int} {c0 c1 c2 c3 c4 c6 c7 c8 c9 c10 c13 c14 c16 c17 c18 c19 c20 c21 c22 c23 c24 c25 c26 c27 c28 c29 c30 c31 c32 c33 c34 c35 c36 c37 c38 c39 c40 c41 c42 c43 c44 c45 c46 c47 c48 c49 c50 c51 c52 c53 c54 c55 c56 c57 c58 c59 c60 c61 c62 c63 c64 c65 c66 c67 c68 c69 c70 c71 c72 c73 c74 c75 c76 c77 c78 c79 c80 c81 c82 c83 c84 c85 c86 c87 c88 c89 c90 c91 c92 c93 c94 c95 c96 c97 c98 c99 c100 c101 c102 c103 c104 c105 c106 c107 c108 c109 c110 c111 c112 c113 c114 c115 c116 c117 c118 c119 c120 c121 c122 c123 c124 c125 c126 c127 c128 c129 c130 c131 c132 c133 c134 c135 c136 c137 c138 c139 c140 c141 c142 c143 c144 c145 c146 c147 c148 c149 c150 c151 c152 c153 c154 c155 c156 c157 c158 c159 c160 c161 c162 c163 c164 c165 c166 c167 c168 c169 c170 c171 c172 c173 c174 c175 c176 c177 c178 c179 c180 c181 c182 c183 c184 c185 c186 c187 c188 : Value}
    (hx : Rw w0 d s s' k' ⟨pm, bm, qp, gp, z, ⟨kd, wh, pg, fm, rt⟩⟩ w) (ha : Ask kd e s s')
    (hK : ∀ (u4 u15 u16 u17 u18 u19 u160 u161 u162 u163 u164 u165 u166 u167 u168 u169 u170 u171 u172 u173 u174 u175 u176 u177 u178 u179 u180 u181 u182 u183 u184 u185 u186 u187 : Value) (w' : World), Rw w0 d s s' k' ⟨pm, bm, qp, gp, z, ⟨kd, wh, pg, fm, rt⟩⟩ w' → Q .normal ⟨#[c0, c1, c2, c3, u4, .pointer (some ⟨d.g, 0, none⟩), c6, c7, c8, c9, c10, .pointer (some ⟨qp, 0, none⟩), .int .i64 e, c13, c14, u15, u16, u17, u18, u19, c20, c21, c22, c23, c24, c25, c26, c27, c28, c29, c30, c31, c32, c33, c34, c35, c36, c37, c38, c39, c40, c41, c42, c43, c44, c45, c46, c47, c48, c49, c50, c51, c52, c53, c54, c55, c56, c57, c58, c59, c60, c61, c62, c63, c64, c65, c66, c67, c68, c69, c70, c71, c72, c73, c74, c75, c76, c77, c78, c79, c80, c81, c82, c83, c84, c85, c86, c87, c88, c89, c90, c91, c92, c93, c94, c95, c96, c97, c98, c99, c100, c101, c102, c103, c104, c105, c106, c107, c108, c109, c110, c111, c112, c113, c114, c115, c116, c117, c118, c119, c120, c121, c122, c123, c124, c125, c126, c127, c128, c129, c130, c131, c132, c133, c134, c135, c136, c137, c138, c139, c140, c141, c142, c143, c144, c145, c146, c147, c148, c149, c150, c151, c152, c153, c154, c155, c156, c157, c158, c159, u160, u161, u162, u163, u164, u165, u166, u167, u168, u169, u170, u171, u172, u173, u174, u175, u176, u177, u178, u179, u180, u181, u182, u183, u184, u185, u186, u187, c188], []⟩ w') :
    Code.wp Tryz.prog ((Tryz.f5.body.bind (pickB 3)).getD .skip) Q ⟨#[c0, c1, c2, c3, c4, .pointer (some ⟨d.g, 0, none⟩), c6, c7, c8, c9, c10, .pointer (some ⟨qp, 0, none⟩), .int .i64 e, c13, c14, .int .i64 0, c16, c17, c18, c19, c20, c21, c22, c23, c24, c25, c26, c27, c28, c29, c30, c31, c32, c33, c34, c35, c36, c37, c38, c39, c40, c41, c42, c43, c44, c45, c46, c47, c48, c49, c50, c51, c52, c53, c54, c55, c56, c57, c58, c59, c60, c61, c62, c63, c64, c65, c66, c67, c68, c69, c70, c71, c72, c73, c74, c75, c76, c77, c78, c79, c80, c81, c82, c83, c84, c85, c86, c87, c88, c89, c90, c91, c92, c93, c94, c95, c96, c97, c98, c99, c100, c101, c102, c103, c104, c105, c106, c107, c108, c109, c110, c111, c112, c113, c114, c115, c116, c117, c118, c119, c120, c121, c122, c123, c124, c125, c126, c127, c128, c129, c130, c131, c132, c133, c134, c135, c136, c137, c138, c139, c140, c141, c142, c143, c144, c145, c146, c147, c148, c149, c150, c151, c152, c153, c154, c155, c156, c157, c158, c159, c160, c161, c162, c163, c164, c165, c166, c167, c168, c169, c170, c171, c172, c173, c174, c175, c176, c177, c178, c179, c180, c181, c182, c183, c184, c185, c186, c187, c188], []⟩ w := by
  have HK : Hid (∀ (u4 u15 u16 u17 u18 u19 u160 u161 u162 u163 u164 u165 u166 u167 u168 u169 u170 u171 u172 u173 u174 u175 u176 u177 u178 u179 u180 u181 u182 u183 u184 u185 u186 u187 : Value) (w' : World), Rw w0 d s s' k' ⟨pm, bm, qp, gp, z, ⟨kd, wh, pg, fm, rt⟩⟩ w' → Q .normal ⟨#[c0, c1, c2, c3, u4, .pointer (some ⟨d.g, 0, none⟩), c6, c7, c8, c9, c10, .pointer (some ⟨qp, 0, none⟩), .int .i64 e, c13, c14, u15, u16, u17, u18, u19, c20, c21, c22, c23, c24, c25, c26, c27, c28, c29, c30, c31, c32, c33, c34, c35, c36, c37, c38, c39, c40, c41, c42, c43, c44, c45, c46, c47, c48, c49, c50, c51, c52, c53, c54, c55, c56, c57, c58, c59, c60, c61, c62, c63, c64, c65, c66, c67, c68, c69, c70, c71, c72, c73, c74, c75, c76, c77, c78, c79, c80, c81, c82, c83, c84, c85, c86, c87, c88, c89, c90, c91, c92, c93, c94, c95, c96, c97, c98, c99, c100, c101, c102, c103, c104, c105, c106, c107, c108, c109, c110, c111, c112, c113, c114, c115, c116, c117, c118, c119, c120, c121, c122, c123, c124, c125, c126, c127, c128, c129, c130, c131, c132, c133, c134, c135, c136, c137, c138, c139, c140, c141, c142, c143, c144, c145, c146, c147, c148, c149, c150, c151, c152, c153, c154, c155, c156, c157, c158, c159, u160, u161, u162, u163, u164, u165, u166, u167, u168, u169, u170, u171, u172, u173, u174, u175, u176, u177, u178, u179, u180, u181, u182, u183, u184, u185, u186, u187, c188], []⟩ w') := hid hK
  have HRX := hid hx
  have HAS := hid ha
  clear hK hx ha
  obtain ⟨nd, hnd⟩ : ∃ nd, s.ds.length = nd := ⟨_, rfl⟩
  have htop : nd ≤ 65536 := by have := HRX.out.pool.top; omega
  have HND := hid hnd
  clear hnd
  have HM : Hid (∀ f : Nat, f < nd → nd - (intOf (.int .i64 ((f : Int) + 1))).toNat < nd - (intOf (.int .i64 (f : Int))).toNat) := fun f h => by
    simp [intOf]
    omega
  conv => arg 2; whnf
  go_wp2
  go_loopw [15] (fun p wx => ∃ f : Nat, p = .int .i64 f ∧ f ≤ nd ∧ Rw w0 d s s' k' ⟨pm, bm, qp, gp, z, ⟨kd, wh, pg, fm, rt⟩⟩ wx) (fun p _ => nd - (intOf p).toNat)
  case atStart => exact ⟨0, rfl, Nat.zero_le _, HRX.out⟩
  case round =>
    obtain ⟨f, rfl, hf, hrw⟩ := hrel
    have HRZ := hid hrw
    have HLN := hid (O.len_at HRZ.out.pool)
    rw [HND.out] at HLN
    clear hrw HRX
    by_cases hlt : f < nd
    · have hlt1 : (f : Int) < (nd : Int) := by omega
      have hlt0 : (f : Int) ≤ (nd : Int) := by omega
      have hwf : wrap64 ((f : Int) + 1) = (f : Int) + 1 := by unfold wrap64; omega
      have HFL : Hid (f + 1 ≤ nd) := hlt
      have HMF := hid (HM.out f hlt)
      have HOA := hid (O.of_any HRZ.out.pool f)
      obtain ⟨⟨da, db, dc, de⟩, hD⟩ : ∃ D, s.ds.getD f O.zd = D := ⟨_, rfl⟩
      have HD := hid hD
      rw [hD] at HOA
      unfold O.dV at HOA
      simp only at HOA
      clear hf hlt htop hD HM HND
      by_cases he : e = 0
      · subst he
        go_wp2_with fail
        refine HLN.out.mono ?_
        rintro e1 w6 ⟨rfl, rfl⟩
        go_wp2_with fail
        refine HOA.out.mono ?_
        rintro e1 w7 ⟨⟨y1, rfl⟩, hB⟩
        have HR7 := hid (HRZ.out.below hB)
        clear hB HRZ HLN HOA
        obtain ⟨z1, hz1⟩ : ∃ z1, w7.heap.size = z1 := ⟨_, rfl⟩
        have g1 := P.cell_of (i := 1) HR7.out.fv.blk rfl
        have hb7 := below_alloc w7 (.cells #[.int .i64 da, .int .i64 db, .int .i64 dc, .int .i64 de] 64)
        have hn7 := heap_alloc_new w7 (.cells #[.int .i64 da, .int .i64 db, .int .i64 dc, .int .i64 de] 64)
        rw [hz1] at hn7
        have HR8 := hid (HR7.out.below hb7)
        have HN8 := hid hn7
        have HOB := hid (O.of_any HR8.out.fv.wo.pool f)
        obtain ⟨⟨ea, eb, ec, ee⟩, hE⟩ : ∃ D, s'.ds.getD f O.zd = D := ⟨_, rfl⟩
        rw [hE] at HOB
        unfold O.dV at HOB
        simp only at HOB
        clear hE
        have g2 := P.cell_of (i := 1) HR8.out.fv.blk rfl
        clear hb7 hn7 HR7 g1
        go_wp2_with fail
        (try rw [hz1])
        refine HOB.out.mono ?_
        rintro e1 w9 ⟨⟨y2, rfl⟩, hB⟩
        have HR9 := hid (HR8.out.below hB)
        have HN9 := hid (P.stay hB HN8.out)
        have hb9 := below_alloc w9 (.cells #[.int .i64 ea, .int .i64 eb, .int .i64 ec, .int .i64 ee] 64)
        have hn10 := heap_alloc_new w9 (.cells #[.int .i64 ea, .int .i64 eb, .int .i64 ec, .int .i64 ee] 64)
        have hn9 := P.stay hb9 HN9.out
        have HR10 := hid (HR9.out.below hb9)
        clear hB hb9 g2 HR8 HN8 HOB HR9 HN9
        go_wp2
        exact ⟨⟨f + 1, by rw [hwf]; rfl, HFL.out, HR10.out⟩, by rw [hwf]; exact HMF.out⟩
      · have he' : (e != 0) = true := by simpa using he
        have hds : s'.ds = s.ds := by rw [HAS.out.same he]
        go_wp2_with fail
        refine HLN.out.mono ?_
        rintro e1 w6 ⟨rfl, rfl⟩
        go_wp2_with fail
        refine HOA.out.mono ?_
        rintro e1 w7 ⟨⟨y1, rfl⟩, hB⟩
        have HR7 := hid (HRZ.out.below hB)
        clear hB HRZ HLN HOA
        obtain ⟨z1, hz1⟩ : ∃ z1, w7.heap.size = z1 := ⟨_, rfl⟩
        have g1 := P.cell_of (i := 1) HR7.out.fv.blk rfl
        have hb7 := below_alloc w7 (.cells #[.int .i64 da, .int .i64 db, .int .i64 dc, .int .i64 de] 64)
        have hn7 := heap_alloc_new w7 (.cells #[.int .i64 da, .int .i64 db, .int .i64 dc, .int .i64 de] 64)
        rw [hz1] at hn7
        have HR8 := hid (HR7.out.below hb7)
        have HN8 := hid hn7
        have HOB := hid (O.of_any HR8.out.fv.wo.pool f)
        rw [hds, HD.out] at HOB
        unfold O.dV at HOB
        simp only at HOB
        have g2 := P.cell_of (i := 1) HR8.out.fv.blk rfl
        clear hb7 hn7 HR7 g1
        go_wp2_with fail
        (try rw [hz1])
        refine HOB.out.mono ?_
        rintro e1 w9 ⟨⟨y2, rfl⟩, hB⟩
        have HR9 := hid (HR8.out.below hB)
        have HN9 := hid (P.stay hB HN8.out)
        have hb9 := below_alloc w9 (.cells #[.int .i64 da, .int .i64 db, .int .i64 dc, .int .i64 de] 64)
        have hn10 := heap_alloc_new w9 (.cells #[.int .i64 da, .int .i64 db, .int .i64 dc, .int .i64 de] 64)
        have hn9 := P.stay hb9 HN9.out
        have HR10 := hid (HR9.out.below hb9)
        clear hB hb9 g2 HR8 HN8 HOB HR9 HN9
        obtain ⟨m0, m1, m2, m3, -⟩ := O.four hn9
        obtain ⟨n0, n1, n2, n3, -⟩ := O.four hn10
        clear he hds
        go_wp2
        exact ⟨⟨f + 1, by rw [hwf]; rfl, HFL.out, HR10.out⟩, by rw [hwf]; exact HMF.out⟩
    · have hlt1 : ¬ (f : Int) < (nd : Int) := by omega
      go_wp2_with fail
      refine HLN.out.mono ?_
      rintro e1 w6 ⟨rfl, rfl⟩
      go_wp2
      exact HK.out _ _ _ _ _ _ _ _ _ _ _ _ _ _ _ _ _ _ _ _ _ _ _ _ _ _ _ _ _ _ _ _ _ _ _ HRZ.out
end Go.Proofs.YtpfmmlbakbhklaaGreatDoor
