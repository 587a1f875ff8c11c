/- What a round of MemPlays tests behind its call of the script holds, and what was told may be changed: the two memories stay as they were. No condition but that they hold the same words and counts. -/
import Derived.Test.YtkfmfnjkaeajeaaC
namespace Go.Proofs.Ytkfmfnjkaeajeaa
open Go.RowKit

theorem plays_cells {w0 w : World} {p b p' b' g n : Nat} {s : St} (h : Pl w0 p b p' b' g s w) (hn : s.xs.length = n) : ∃ x, w.cell? ⟨g, 0, none⟩ = some (.int .u64 x) ∧ w.frozen? ⟨g, 0, none⟩ = false := by
  have := h.two.m1.pos
  exact ⟨_, h.row.cell 0 (by omega), h.row.free 0⟩

set_option maxRecDepth 1000000 in
set_option maxHeartbeats 4000000 in
theorem plays_tail {K2 : Act → World → Prop} {Q0 : Exit → Act → World → Prop} {w0 w : World} {p2 b2 p' b' n : Nat} {s' : St} {at_ : Int}
    {c1 c3 c4 c5 c6 c8 c10 c11 c12 c13 c14 c15 c16 c17 c18 c19 c20 c21 c22 c23 c24 c25 c26 c27 c28 c29 c30 c31 c32 c33 c34 c35 c36 c37 c38 c39 c40 c41 c42 c43 c44 c45 c46 c47 c48 c49 c50 c51 c52 c53 c54 c55 c56 c57 c58 c59 c60 c61 c62 c63 c64 c65 c66 c67 c68 c69 c70 c71 c72 c73 c74 c75 c76 c77 c78 c79 c80 c81 c82 c83 c84 c85 c86 c87 c88 c89 c90 c91 c92 c93 c94 c95 c96 c97 c98 c99 c100 c101 c102 c103 c104 c105 c106 c107 c108 c109 c110 c111 c112 c113 c114 c115 c116 c117 c118 c119 c120 c121 c122 c123 c124 c125 c126 c127 c128 c129 c130 c131 c132 c133 c134 c135 c136 c137 c138 c139 c140 c141 c142 c143 c144 c145 c146 c147 c148 c149 c150 c151 c152 c153 c154 c155 c156 c157 c158 c159 c160 c161 c162 c163 c164 c165 c166 c167 c168 c169 c170 c171 c172 c173 c174 c175 c176 c177 c178 c179 c180 c181 c182 c183 c184 c185 c186 c187 c188 c189 c190 c191 c192 c193 c194 c195 c196 c197 c198 c199 c200 c201 c202 c203 c204 c205 c206 c207 c208 c209 c210 c211 c212 c213 c214 c215 c216 c217 c218 c219 c220 c221 c222 c223 c224 c225 c226 c227 c228 c229 c230 c231 c232 c233 c234 c235 c236 c237 c238 c239 c240 : Value} (hn1 : 1 ≤ n) (hn2 : n ≤ 5000) (hl : s'.xs.length = n) (T : Two 46 w0 w p2 b2 s' p' b' s')
    (hK : ∀ (u26 u27 u28 u184 u185 u186 u187 u188 u189 u190 u191 u192 u193 u194 u195 u196 u197 u198 u199 u200 u201 u202 u203 u204 u205 u206 u207 u208 u209 u210 u211 u212 u213 u214 u215 u216 u217 u218 u219 u220 u221 u222 u223 u224 u225 u226 u227 u228 u229 u230 u231 u232 u233 u234 u235 u236 u237 u238 u239 : Value) (w' : World), Two 46 w0 w' p2 b2 s' p' b' s' → K2 ⟨#[.int .i64 n, c1, .int .i64 at_, c3, c4, c5, c6, .pointer (some ⟨p2, 0, none⟩), c8, (.pointer (some ⟨p', 0, none⟩)), c10, c11, c12, c13, c14, c15, c16, c17, c18, c19, c20, c21, c22, c23, c24, c25, u26, u27, u28, c29, c30, c31, c32, c33, c34, c35, c36, c37, c38, c39, c40, c41, c42, c43, c44, c45, c46, c47, c48, c49, c50, c51, c52, c53, c54, c55, c56, c57, c58, c59, c60, c61, c62, c63, c64, c65, c66, c67, c68, c69, c70, c71, c72, c73, c74, c75, c76, c77, c78, c79, c80, c81, c82, c83, c84, c85, c86, c87, c88, c89, c90, c91, c92, c93, c94, c95, c96, c97, c98, c99, c100, c101, c102, c103, c104, c105, c106, c107, c108, c109, c110, c111, c112, c113, c114, c115, c116, c117, c118, c119, c120, c121, c122, c123, c124, c125, c126, c127, c128, c129, c130, c131, c132, c133, c134, c135, c136, c137, c138, c139, c140, c141, c142, c143, c144, c145, c146, c147, c148, c149, c150, c151, c152, c153, c154, c155, c156, c157, c158, c159, c160, c161, c162, c163, c164, c165, c166, c167, c168, c169, c170, c171, c172, c173, c174, c175, c176, c177, c178, c179, c180, c181, c182, c183, u184, u185, u186, u187, u188, u189, u190, u191, u192, u193, u194, u195, u196, u197, u198, u199, u200, u201, u202, u203, u204, u205, u206, u207, u208, u209, u210, u211, u212, u213, u214, u215, u216, u217, u218, u219, u220, u221, u222, u223, u224, u225, u226, u227, u228, u229, u230, u231, u232, u233, u234, u235, u236, u237, u238, u239, c240], []⟩ w') :
    Code.wp Try.prog ((Try.f3.body.bind (pick 35)).getD .skip) (Exit.inBlock 1 (Exit.then K2 Q0)) ⟨#[.int .i64 n, c1, .int .i64 at_, c3, c4, c5, c6, .pointer (some ⟨p2, 0, none⟩), c8, (.pointer (some ⟨p', 0, none⟩)), c10, c11, c12, c13, c14, c15, c16, c17, c18, c19, c20, c21, c22, c23, c24, c25, c26, c27, c28, c29, c30, c31, c32, c33, c34, c35, c36, c37, c38, c39, c40, c41, c42, c43, c44, c45, c46, c47, c48, c49, c50, c51, c52, c53, c54, c55, c56, c57, c58, c59, c60, c61, c62, c63, c64, c65, c66, c67, c68, c69, c70, c71, c72, c73, c74, c75, c76, c77, c78, c79, c80, c81, c82, c83, c84, c85, c86, c87, c88, c89, c90, c91, c92, c93, c94, c95, c96, c97, c98, c99, c100, c101, c102, c103, c104, c105, c106, c107, c108, c109, c110, c111, c112, c113, c114, c115, c116, c117, c118, c119, c120, c121, c122, c123, c124, c125, c126, c127, c128, c129, c130, c131, c132, c133, c134, c135, c136, c137, c138, c139, c140, c141, c142, c143, c144, c145, c146, c147, c148, c149, c150, c151, c152, c153, c154, c155, c156, c157, c158, c159, c160, c161, c162, c163, c164, c165, c166, c167, c168, c169, c170, c171, c172, c173, c174, c175, c176, c177, c178, c179, c180, c181, c182, c183, c184, c185, c186, c187, c188, c189, c190, c191, c192, c193, c194, c195, c196, c197, c198, c199, c200, c201, c202, c203, c204, c205, c206, c207, c208, c209, c210, c211, c212, c213, c214, c215, c216, c217, c218, c219, c220, c221, c222, c223, c224, c225, c226, c227, c228, c229, c230, c231, c232, c233, c234, c235, c236, c237, c238, c239, c240], []⟩ w := by
  have HL : Hid (s'.xs.length = n) := hl
  have HK : Hid (∀ (u26 u27 u28 u184 u185 u186 u187 u188 u189 u190 u191 u192 u193 u194 u195 u196 u197 u198 u199 u200 u201 u202 u203 u204 u205 u206 u207 u208 u209 u210 u211 u212 u213 u214 u215 u216 u217 u218 u219 u220 u221 u222 u223 u224 u225 u226 u227 u228 u229 u230 u231 u232 u233 u234 u235 u236 u237 u238 u239 : Value) (w' : World), Two 46 w0 w' p2 b2 s' p' b' s' → K2 ⟨#[.int .i64 n, c1, .int .i64 at_, c3, c4, c5, c6, .pointer (some ⟨p2, 0, none⟩), c8, (.pointer (some ⟨p', 0, none⟩)), c10, c11, c12, c13, c14, c15, c16, c17, c18, c19, c20, c21, c22, c23, c24, c25, u26, u27, u28, c29, c30, c31, c32, c33, c34, c35, c36, c37, c38, c39, c40, c41, c42, c43, c44, c45, c46, c47, c48, c49, c50, c51, c52, c53, c54, c55, c56, c57, c58, c59, c60, c61, c62, c63, c64, c65, c66, c67, c68, c69, c70, c71, c72, c73, c74, c75, c76, c77, c78, c79, c80, c81, c82, c83, c84, c85, c86, c87, c88, c89, c90, c91, c92, c93, c94, c95, c96, c97, c98, c99, c100, c101, c102, c103, c104, c105, c106, c107, c108, c109, c110, c111, c112, c113, c114, c115, c116, c117, c118, c119, c120, c121, c122, c123, c124, c125, c126, c127, c128, c129, c130, c131, c132, c133, c134, c135, c136, c137, c138, c139, c140, c141, c142, c143, c144, c145, c146, c147, c148, c149, c150, c151, c152, c153, c154, c155, c156, c157, c158, c159, c160, c161, c162, c163, c164, c165, c166, c167, c168, c169, c170, c171, c172, c173, c174, c175, c176, c177, c178, c179, c180, c181, c182, c183, u184, u185, u186, u187, u188, u189, u190, u191, u192, u193, u194, u195, u196, u197, u198, u199, u200, u201, u202, u203, u204, u205, u206, u207, u208, u209, u210, u211, u212, u213, u214, u215, u216, u217, u218, u219, u220, u221, u222, u223, u224, u225, u226, u227, u228, u229, u230, u231, u232, u233, u234, u235, u236, u237, u238, u239, c240], []⟩ w') := hK
  clear hl hK
  conv => arg 2; whnf
  go_wp2_with fail
  refine (count_any T.m1).mono ?_
  rintro e w4 ⟨rfl, hB4⟩
  have T4 := T.below hB4
  clear T hB4
  obtain ⟨dd, hdd⟩ : ∃ dd, s'.d = dd := ⟨_, rfl⟩
  obtain ⟨ll, hll⟩ : ∃ ll, s'.l = ll := ⟨_, rfl⟩
  rw [hdd, hll]
  have HD : Hid (s'.xs.length = n ∧ s'.d = dd ∧ s'.l = ll) := ⟨HL.out, hdd, hll⟩
  clear hdd hll
  go_wp2_with fail
  refine (T4.told n HL.out).mono ?_
  clear T4
  rintro e w5 ⟨r, rfl, PL⟩
  have t1 : ((dd : Int) != dd) = false := by simp
  have t2 : ((ll : Int) != ll) = false := by simp
  have t3 : ((n : Int) != n) = false := by simp
  have hS0 : PlS w0 p2 b2 p' b' r n dd ll s' w5.drew := (PL.below (Below.refl _ _).drew).plS HD.out.1 HD.out.2.1 HD.out.2.2
  clear PL
  go_wp2_with fail
  go_region_held3 (fun w' => (w'.cell? ⟨p', 0, none⟩ = some (.slice (some ⟨b', 0, none⟩) n n) ∧ w'.cell? ⟨p', 1, none⟩ = some (.int .i64 dd) ∧ w'.cell? ⟨p', 2, none⟩ = some (.int .i64 ll)) ∧ Pl w0 p2 b2 p' b' r s' w') (first | exact hS0 | assumption)
    (first
      | (go_at_call_of 23 (Value.slice (some ⟨b', 0, none⟩) n n); refine (PlS.same (by assumption) HD.out.1 HD.out.2.1 HD.out.2.2).mono ?_; rintro e w' ⟨rfl, hw'⟩)
      | (go_at_call 22; refine (PlS.words (by assumption) HD.out.1 HD.out.2.1 HD.out.2.2 _).mono ?_; rintro e w' ⟨q1, m1, c1', rfl, hw', hu1⟩)
      | (go_at_call 24; refine (PlS.rwords (by assumption) HD.out.1 HD.out.2.1 HD.out.2.2 _ (by assumption)).mono ?_; rintro e w' ⟨q2, m2, c2', rfl, hw', hu2⟩)
      | (go_at_call 23; refine (PlS.same2 (by assumption) HD.out.1 HD.out.2.1 HD.out.2.2 (by assumption)).mono ?_; rintro e w' ⟨rfl, hw'⟩)
      | (go_at_call 25; refine (PlS.len (by assumption) HD.out.1).mono ?_; rintro e w6 ⟨rfl, hw6⟩))
  have PL6 := hw6.2
  obtain ⟨x0, f0, f1⟩ := plays_cells PL6 HD.out.1
  have T6 := PL6.change (.int .u64 77)
  have hpos : (0 : Int) < n := by omega
  clear PL6 hw6
  go_wp2
  exact HK.out _ _ _ _ _ _ _ _ _ _ _ _ _ _ _ _ _ _ _ _ _ _ _ _ _ _ _ _ _ _ _ _ _ _ _ _ _ _ _ _ _ _ _ _ _ _ _ _ _ _ _ _ _ _ _ _ _ _ _ _ T6
end Go.Proofs.Ytkfmfnjkaeajeaa
