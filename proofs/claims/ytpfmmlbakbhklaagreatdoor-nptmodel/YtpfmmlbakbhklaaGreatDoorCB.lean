/- What a round of NptModel does where Map is asked, or not. No condition. What a round of NptModel does where Large is asked, or not. No condition. What a round of NptModel does where Unmap is asked. No condition. What a round of NptModel does where Protect is asked, or not. No condition. What a round of NptModel finds by a walker. No condition. What a round of NptModel tests of a page holds. No condition. -/
import Derived.Test.YtpfmmlbakbhklaaGreatDoorCA
import Derived.Test.YtpfmmlbakbhklaaGreatDoorBS
import Derived.Deep.CutRange
import Derived.Deep.CutBlock
import Derived.Deep.RegionHeld3
import Derived.Deep.RegionLaw
namespace Go.Proofs.YtpfmmlbakbhklaaGreatDoor
open Go.RowKit
set_option maxRecDepth 100000 in
set_option maxHeartbeats 8000000 in
theorem mA {Q : Exit → Act → World → Prop} {w0 w : World} {d : Sd} {k N' z pg : Nat} {kd wh pp fm rt qf qr : Int} {c0 c1 c2 c3 c4 c5 c6 c8 c9 c11 c13 c14 c15 c16 c17 c18 c19 c20 c21 c22 c23 c24 c25 c26 c27 c28 c29 c30 c31 c32 c33 c34 c35 c36 c37 c38 c39 c40 c41 c42 c43 c44 c45 c46 c47 c48 c49 c50 c51 c52 c53 c54 c55 c56 c57 c58 c59 c60 c61 c62 c63 c64 c65 c66 c67 c68 c69 c70 c71 c72 c73 c74 c75 c76 c77 c78 c79 c80 c81 c82 c83 c84 c85 c86 c87 c88 c89 c90 c91 c92 c93 c94 c95 c96 c97 c98 c99 c100 c101 c102 c103 c104 c105 c106 c107 c108 c109 c110 c111 c112 c113 c114 c115 c116 c117 c118 c119 c120 c121 c122 c123 c124 c125 c126 c127 c128 c129 c130 c131 c132 c133 c134 c135 c136 c137 c138 c139 c140 c141 c142 c143 c144 c145 c146 c147 c148 c149 c150 c151 c152 c153 c154 c155 c156 c157 c158 c159 c160 c161 c162 c163 c164 c165 c166 c167 c168 c169 c170 c171 c172 c173 c174 c175 c176 c177 c178 c179 c180 c181 c182 c183 c184 c185 c186 c187 c188 c189 c190 c191 c192 c193 c194 c195 c196 c197 c198 c199 c200 c201 c202 c203 c204 c205 c206 c207 c208 c209 c210 c211 c212 c213 c214 c215 c216 c217 c218 : Value}
    (hx : Mo w0 d (k) (N' + 3) (pg : Int) (qf, qr) w) (hk : k + 1000 ≤ bnd) (hz : w.heap[z]? = some (.cells #[.int .i64 kd, .int .i64 wh, .int .i64 pp, .int .i64 fm, .int .i64 rt] 27 (0, 0)))
    (hK : ∀ (u54 u55 u56 u57 u58 u59 u60 u61 u62 u63 u64 u65 u66 u67 u68 u69 u70 u71 u72 : Value) (b : Bool) (q1 q2 : Int) (N1 : Nat) (w' : World), (Mo w0 d (k + 100) N1 (pg : Int) (q1, q2) w') → (w'.heap[z]? = some (.cells #[.int .i64 kd, .int .i64 wh, .int .i64 pp, .int .i64 fm, .int .i64 rt] 27 (0, 0))) → (b = true → q1 = fm ∧ q2 = rt) → (b = false → q1 = qf ∧ q2 = qr) → (N' ≤ N1) → (kd ≠ 0 → N' + 3 ≤ N1) → Q .normal ⟨#[c0, c1, c2, c3, c4, c5, c6, .pointer (some ⟨d.a0, 0, none⟩), c8, c9, .int .i64 pg, c11, .pointer (some ⟨z, 0, none⟩), c13, c14, c15, c16, c17, c18, c19, c20, c21, c22, c23, c24, c25, c26, c27, c28, c29, c30, c31, c32, c33, c34, c35, c36, c37, c38, c39, c40, c41, c42, c43, c44, c45, c46, c47, c48, c49, c50, c51, c52, c53, u54, u55, u56, u57, u58, u59, u60, u61, u62, u63, u64, u65, u66, u67, u68, u69, u70, u71, u72, .bool b, c74, c75, c76, c77, c78, c79, c80, c81, c82, c83, c84, c85, c86, c87, c88, c89, c90, c91, c92, c93, c94, c95, c96, c97, c98, c99, c100, c101, c102, c103, c104, c105, c106, c107, c108, c109, c110, c111, c112, c113, c114, c115, c116, c117, c118, c119, c120, c121, c122, c123, c124, c125, c126, c127, c128, c129, c130, c131, c132, c133, c134, c135, c136, c137, c138, c139, c140, c141, c142, c143, c144, c145, c146, c147, c148, c149, c150, c151, c152, c153, c154, c155, c156, c157, c158, c159, c160, c161, c162, c163, c164, c165, c166, c167, c168, c169, c170, c171, c172, c173, c174, c175, c176, c177, c178, c179, c180, c181, c182, c183, c184, c185, c186, c187, c188, c189, c190, c191, c192, c193, c194, c195, c196, c197, c198, c199, c200, c201, c202, c203, c204, c205, c206, c207, c208, c209, c210, c211, c212, c213, c214, c215, c216, c217, c218], []⟩ w') :
    Code.wp Tryz.prog ((Tryz.f4.body.bind (pickR 12)).getD .skip) Q ⟨#[c0, c1, c2, c3, c4, c5, c6, .pointer (some ⟨d.a0, 0, none⟩), c8, c9, .int .i64 pg, c11, .pointer (some ⟨z, 0, none⟩), c13, c14, c15, c16, c17, c18, c19, c20, c21, c22, c23, c24, c25, c26, c27, c28, c29, c30, c31, c32, c33, c34, c35, c36, c37, c38, c39, c40, c41, c42, c43, c44, c45, c46, c47, c48, c49, c50, c51, c52, c53, c54, c55, c56, c57, c58, c59, c60, c61, c62, c63, c64, c65, c66, c67, c68, c69, c70, c71, c72, c73, c74, c75, c76, c77, c78, c79, c80, c81, c82, c83, c84, c85, c86, c87, c88, c89, c90, c91, c92, c93, c94, c95, c96, c97, c98, c99, c100, c101, c102, c103, c104, c105, c106, c107, c108, c109, c110, c111, c112, c113, c114, c115, c116, c117, c118, c119, c120, c121, c122, c123, c124, c125, c126, c127, c128, c129, c130, c131, c132, c133, c134, c135, c136, c137, c138, c139, c140, c141, c142, c143, c144, c145, c146, c147, c148, c149, c150, c151, c152, c153, c154, c155, c156, c157, c158, c159, c160, c161, c162, c163, c164, c165, c166, c167, c168, c169, c170, c171, c172, c173, c174, c175, c176, c177, c178, c179, c180, c181, c182, c183, c184, c185, c186, c187, c188, c189, c190, c191, c192, c193, c194, c195, c196, c197, c198, c199, c200, c201, c202, c203, c204, c205, c206, c207, c208, c209, c210, c211, c212, c213, c214, c215, c216, c217, c218], []⟩ w := by
  have HK : Hid (∀ (u54 u55 u56 u57 u58 u59 u60 u61 u62 u63 u64 u65 u66 u67 u68 u69 u70 u71 u72 : Value) (b : Bool) (q1 q2 : Int) (N1 : Nat) (w' : World), (Mo w0 d (k + 100) N1 (pg : Int) (q1, q2) w') → (w'.heap[z]? = some (.cells #[.int .i64 kd, .int .i64 wh, .int .i64 pp, .int .i64 fm, .int .i64 rt] 27 (0, 0))) → (b = true → q1 = fm ∧ q2 = rt) → (b = false → q1 = qf ∧ q2 = qr) → (N' ≤ N1) → (kd ≠ 0 → N' + 3 ≤ N1) → Q .normal ⟨#[c0, c1, c2, c3, c4, c5, c6, .pointer (some ⟨d.a0, 0, none⟩), c8, c9, .int .i64 pg, c11, .pointer (some ⟨z, 0, none⟩), c13, c14, c15, c16, c17, c18, c19, c20, c21, c22, c23, c24, c25, c26, c27, c28, c29, c30, c31, c32, c33, c34, c35, c36, c37, c38, c39, c40, c41, c42, c43, c44, c45, c46, c47, c48, c49, c50, c51, c52, c53, u54, u55, u56, u57, u58, u59, u60, u61, u62, u63, u64, u65, u66, u67, u68, u69, u70, u71, u72, .bool b, c74, c75, c76, c77, c78, c79, c80, c81, c82, c83, c84, c85, c86, c87, c88, c89, c90, c91, c92, c93, c94, c95, c96, c97, c98, c99, c100, c101, c102, c103, c104, c105, c106, c107, c108, c109, c110, c111, c112, c113, c114, c115, c116, c117, c118, c119, c120, c121, c122, c123, c124, c125, c126, c127, c128, c129, c130, c131, c132, c133, c134, c135, c136, c137, c138, c139, c140, c141, c142, c143, c144, c145, c146, c147, c148, c149, c150, c151, c152, c153, c154, c155, c156, c157, c158, c159, c160, c161, c162, c163, c164, c165, c166, c167, c168, c169, c170, c171, c172, c173, c174, c175, c176, c177, c178, c179, c180, c181, c182, c183, c184, c185, c186, c187, c188, c189, c190, c191, c192, c193, c194, c195, c196, c197, c198, c199, c200, c201, c202, c203, c204, c205, c206, c207, c208, c209, c210, c211, c212, c213, c214, c215, c216, c217, c218], []⟩ w') := hid hK
  clear hK
  have HTZ := hid hx
  have HZ := hid hz
  have HKB := hid hk
  clear hx hz hk
  conv => arg 2; whnf
  have y0 := P.cell_of (i := 0) HZ.out rfl
  have y2 := P.cell_of (i := 2) HZ.out rfl
  by_cases hk0 : kd = 0
  · subst hk0
    have y3 := P.cell_of (i := 3) HZ.out rfl
    have y4 := P.cell_of (i := 4) HZ.out rfl
    have HC := hid (HTZ.out.map (by have := HKB.out; omega) pp fm rt)
    go_wp2_with fail
    refine HC.out.mono ?_
    rintro e w5 ⟨x, rfl, h5, hKp⟩
    have HZ5 := hid (hKp _ _ _ (by decide) (by decide) (by decide) (by decide) HZ.out)
    have H5 := hid h5
    clear h5 hKp y0 y2 y3 y4 HC
    have y2 := P.cell_of (i := 2) HZ5.out rfl
    by_cases hx : x = 0
    · subst hx
      by_cases hp : pp = (pg : Int)
      · have tp : (pp == (pg : Int)) = true := by simpa using hp
        have H6 : Hid (Mo w0 d (k + 100) N' (pg : Int) (fm, rt) w5) := by have := H5.out; rw [if_pos ⟨rfl, hp⟩] at this; exact this
        clear hp H5
        go_wp2
        exact HK.out _ _ _ _ _ _ _ _ _ _ _ _ _ _ _ _ _ _ _ true _ _ _ _ H6.out HZ5.out (fun _ => ⟨rfl, rfl⟩) (fun h => Bool.noConfusion h) (Nat.le_refl _) (fun h => absurd rfl h)
      · have tp : (pp == (pg : Int)) = false := by simpa using hp
        have H6 : Hid (Mo w0 d (k + 100) N' (pg : Int) (qf, qr) w5) := by have := H5.out; rw [if_neg (fun h => hp h.2)] at this; exact this
        clear hp H5
        go_wp2
        exact HK.out _ _ _ _ _ _ _ _ _ _ _ _ _ _ _ _ _ _ _ false _ _ _ _ H6.out HZ5.out (fun h => Bool.noConfusion h) (fun _ => ⟨rfl, rfl⟩) (Nat.le_refl _) (fun h => absurd rfl h)
    · have tx : (x == 0) = false := by simpa using hx
      have H6 : Hid (Mo w0 d (k + 100) N' (pg : Int) (qf, qr) w5) := by have := H5.out; rw [if_neg (fun h => hx h.1)] at this; exact this
      clear hx H5
      go_wp2
      exact HK.out _ _ _ _ _ _ _ _ _ _ _ _ _ _ _ _ _ _ _ false _ _ _ _ H6.out HZ5.out (fun h => Bool.noConfusion h) (fun _ => ⟨rfl, rfl⟩) (Nat.le_refl _) (fun h => absurd rfl h)
  · have hq0 : (kd == 0) = false := by simpa using hk0
    clear hk0
    go_wp2
    exact HK.out _ _ _ _ _ _ _ _ _ _ _ _ _ _ _ _ _ _ _ false _ _ _ _ (HTZ.out.mono (by omega) (Nat.le_refl _)) HZ.out (fun h => Bool.noConfusion h) (fun _ => ⟨rfl, rfl⟩) (by omega) (fun _ => Nat.le_refl _)
end Go.Proofs.YtpfmmlbakbhklaaGreatDoor
namespace Go.Proofs.YtpfmmlbakbhklaaGreatDoor
open Go.RowKit
set_option maxRecDepth 100000 in
set_option maxHeartbeats 8000000 in
theorem mB {Q : Exit → Act → World → Prop} {w0 w : World} {d : Sd} {k N' z pg : Nat} {kd wh pp fm rt qf qr : Int} {M N1 : Nat} {c0 c1 c2 c3 c4 c5 c6 c8 c9 c11 c13 c14 c15 c16 c17 c18 c19 c20 c21 c22 c23 c24 c25 c26 c27 c28 c29 c30 c31 c32 c33 c34 c35 c36 c37 c38 c39 c40 c41 c42 c43 c44 c45 c46 c47 c48 c49 c50 c51 c52 c53 c54 c55 c56 c57 c58 c59 c60 c61 c62 c63 c64 c65 c66 c67 c68 c69 c70 c71 c72 c73 c74 c75 c76 c77 c78 c79 c80 c81 c82 c83 c84 c85 c86 c87 c88 c89 c90 c91 c92 c93 c94 c95 c96 c97 c98 c99 c100 c101 c102 c103 c104 c105 c106 c107 c108 c109 c110 c111 c112 c113 c114 c115 c116 c117 c118 c119 c120 c121 c122 c123 c124 c125 c126 c127 c128 c129 c130 c131 c132 c133 c134 c135 c136 c137 c138 c139 c140 c141 c142 c143 c144 c145 c146 c147 c148 c149 c150 c151 c152 c153 c154 c155 c156 c157 c158 c159 c160 c161 c162 c163 c164 c165 c166 c167 c168 c169 c170 c171 c172 c173 c174 c175 c176 c177 c178 c179 c180 c181 c182 c183 c184 c185 c186 c187 c188 c189 c190 c191 c192 c193 c194 c195 c196 c197 c198 c199 c200 c201 c202 c203 c204 c205 c206 c207 c208 c209 c210 c211 c212 c213 c214 c215 c216 c217 c218 : Value}
    (hx : Mo w0 d (k) N1 (pg : Int) (qf, qr) w) (hk : k + 1000 ≤ bnd) (hz : w.heap[z]? = some (.cells #[.int .i64 kd, .int .i64 wh, .int .i64 pp, .int .i64 fm, .int .i64 rt] 27 (0, 0))) (hn : N' ≤ N1 ∧ (kd ≠ 0 → N' + 3 ≤ N1)) (he : ((pg : Nat) : Int).tmod 16 = (M : Int) ∧ wrap64 ((pg : Int) - (M : Int)) = (pg : Int) - (M : Int)) (hM : (pg : Int) % 16 = (M : Int))
    (hK : ∀ (u78 u79 u80 u81 u82 u83 u84 u85 u86 u87 u88 u89 u90 u91 u92 u93 u94 u95 u96 u97 u98 u99 : Value) (b : Bool) (q3 q4 : Int) (N2 : Nat) (w' : World), (Mo w0 d (k + 100) N2 (pg : Int) (q3, q4) w') → (w'.heap[z]? = some (.cells #[.int .i64 kd, .int .i64 wh, .int .i64 pp, .int .i64 fm, .int .i64 rt] 27 (0, 0))) → (b = true → q3 = fm + (M : Int) ∧ q4 = rt ∧ 0 ≤ fm ∧ fm ≤ 4095) → (b = false → q3 = qf ∧ q4 = qr) → (N' ≤ N2) → (kd ≠ 0 → kd ≠ 1 → N' + 3 ≤ N2) → Q .normal ⟨#[c0, c1, c2, c3, c4, c5, c6, .pointer (some ⟨d.a0, 0, none⟩), c8, c9, .int .i64 pg, c11, .pointer (some ⟨z, 0, none⟩), c13, c14, c15, c16, c17, c18, c19, c20, c21, c22, c23, c24, c25, c26, c27, c28, c29, c30, c31, c32, c33, c34, c35, c36, c37, c38, c39, c40, c41, c42, c43, c44, c45, c46, c47, c48, c49, c50, c51, c52, c53, c54, c55, c56, c57, c58, c59, c60, c61, c62, c63, c64, c65, c66, c67, c68, c69, c70, c71, c72, c73, c74, c75, c76, c77, u78, u79, u80, u81, u82, u83, u84, u85, u86, u87, u88, u89, u90, u91, u92, u93, u94, u95, u96, u97, u98, u99, .bool b, c101, c102, c103, c104, c105, c106, c107, c108, c109, c110, c111, c112, c113, c114, c115, c116, c117, c118, c119, c120, c121, c122, c123, c124, c125, c126, c127, c128, c129, c130, c131, c132, c133, c134, c135, c136, c137, c138, c139, c140, c141, c142, c143, c144, c145, c146, c147, c148, c149, c150, c151, c152, c153, c154, c155, c156, c157, c158, c159, c160, c161, c162, c163, c164, c165, c166, c167, c168, c169, c170, c171, c172, c173, c174, c175, c176, c177, c178, c179, c180, c181, c182, c183, c184, c185, c186, c187, c188, c189, c190, c191, c192, c193, c194, c195, c196, c197, c198, c199, c200, c201, c202, c203, c204, c205, c206, c207, c208, c209, c210, c211, c212, c213, c214, c215, c216, c217, c218], []⟩ w') :
    Code.wp Tryz.prog ((Tryz.f4.body.bind (pickR 15)).getD .skip) Q ⟨#[c0, c1, c2, c3, c4, c5, c6, .pointer (some ⟨d.a0, 0, none⟩), c8, c9, .int .i64 pg, c11, .pointer (some ⟨z, 0, none⟩), c13, c14, c15, c16, c17, c18, c19, c20, c21, c22, c23, c24, c25, c26, c27, c28, c29, c30, c31, c32, c33, c34, c35, c36, c37, c38, c39, c40, c41, c42, c43, c44, c45, c46, c47, c48, c49, c50, c51, c52, c53, c54, c55, c56, c57, c58, c59, c60, c61, c62, c63, c64, c65, c66, c67, c68, c69, c70, c71, c72, c73, c74, c75, c76, c77, c78, c79, c80, c81, c82, c83, c84, c85, c86, c87, c88, c89, c90, c91, c92, c93, c94, c95, c96, c97, c98, c99, c100, c101, c102, c103, c104, c105, c106, c107, c108, c109, c110, c111, c112, c113, c114, c115, c116, c117, c118, c119, c120, c121, c122, c123, c124, c125, c126, c127, c128, c129, c130, c131, c132, c133, c134, c135, c136, c137, c138, c139, c140, c141, c142, c143, c144, c145, c146, c147, c148, c149, c150, c151, c152, c153, c154, c155, c156, c157, c158, c159, c160, c161, c162, c163, c164, c165, c166, c167, c168, c169, c170, c171, c172, c173, c174, c175, c176, c177, c178, c179, c180, c181, c182, c183, c184, c185, c186, c187, c188, c189, c190, c191, c192, c193, c194, c195, c196, c197, c198, c199, c200, c201, c202, c203, c204, c205, c206, c207, c208, c209, c210, c211, c212, c213, c214, c215, c216, c217, c218], []⟩ w := by
  have HK : Hid (∀ (u78 u79 u80 u81 u82 u83 u84 u85 u86 u87 u88 u89 u90 u91 u92 u93 u94 u95 u96 u97 u98 u99 : Value) (b : Bool) (q3 q4 : Int) (N2 : Nat) (w' : World), (Mo w0 d (k + 100) N2 (pg : Int) (q3, q4) w') → (w'.heap[z]? = some (.cells #[.int .i64 kd, .int .i64 wh, .int .i64 pp, .int .i64 fm, .int .i64 rt] 27 (0, 0))) → (b = true → q3 = fm + (M : Int) ∧ q4 = rt ∧ 0 ≤ fm ∧ fm ≤ 4095) → (b = false → q3 = qf ∧ q4 = qr) → (N' ≤ N2) → (kd ≠ 0 → kd ≠ 1 → N' + 3 ≤ N2) → Q .normal ⟨#[c0, c1, c2, c3, c4, c5, c6, .pointer (some ⟨d.a0, 0, none⟩), c8, c9, .int .i64 pg, c11, .pointer (some ⟨z, 0, none⟩), c13, c14, c15, c16, c17, c18, c19, c20, c21, c22, c23, c24, c25, c26, c27, c28, c29, c30, c31, c32, c33, c34, c35, c36, c37, c38, c39, c40, c41, c42, c43, c44, c45, c46, c47, c48, c49, c50, c51, c52, c53, c54, c55, c56, c57, c58, c59, c60, c61, c62, c63, c64, c65, c66, c67, c68, c69, c70, c71, c72, c73, c74, c75, c76, c77, u78, u79, u80, u81, u82, u83, u84, u85, u86, u87, u88, u89, u90, u91, u92, u93, u94, u95, u96, u97, u98, u99, .bool b, c101, c102, c103, c104, c105, c106, c107, c108, c109, c110, c111, c112, c113, c114, c115, c116, c117, c118, c119, c120, c121, c122, c123, c124, c125, c126, c127, c128, c129, c130, c131, c132, c133, c134, c135, c136, c137, c138, c139, c140, c141, c142, c143, c144, c145, c146, c147, c148, c149, c150, c151, c152, c153, c154, c155, c156, c157, c158, c159, c160, c161, c162, c163, c164, c165, c166, c167, c168, c169, c170, c171, c172, c173, c174, c175, c176, c177, c178, c179, c180, c181, c182, c183, c184, c185, c186, c187, c188, c189, c190, c191, c192, c193, c194, c195, c196, c197, c198, c199, c200, c201, c202, c203, c204, c205, c206, c207, c208, c209, c210, c211, c212, c213, c214, c215, c216, c217, c218], []⟩ w') := hid hK
  clear hK
  have HTZ := hid hx
  have HZ := hid hz
  have HKB := hid hk
  have HN1 := hid hn
  have HE := hid he
  have HMM := hid hM
  clear hx hz hk hn he hM
  conv => arg 2; whnf
  have y0 := P.cell_of (i := 0) HZ.out rfl
  have y2 := P.cell_of (i := 2) HZ.out rfl
  by_cases hk1 : kd = 1
  · subst hk1
    have y3 := P.cell_of (i := 3) HZ.out rfl
    have y4 := P.cell_of (i := 4) HZ.out rfl
    have HC := hid ((HTZ.out.mono (Nat.le_refl _) (HN1.out.2 (by decide))).large (by have := HKB.out; omega) pp fm rt)
    rw [HMM.out] at HC
    go_wp2_with fail
    refine HC.out.mono ?_
    rintro e w5 ⟨x, rfl, hfm, h5, hKp⟩
    have HZ5 := hid (hKp _ _ _ (by decide) (by decide) (by decide) (by decide) HZ.out)
    have H5 := hid h5
    clear h5 hKp y0 y2 y3 y4 HC
    have y2 := P.cell_of (i := 2) HZ5.out rfl
    by_cases hx : x = 0
    · have HFM := hid (hfm hx)
      clear hfm
      subst hx
      have e16 := HE.out.1
      have e17 := HE.out.2
      by_cases hp : pp = (pg : Int) - (M : Int)
      · have tp : (pp == (pg : Int) - (M : Int)) = true := by simpa using hp
        have H6 : Hid (Mo w0 d (k + 100) N' (pg : Int) (fm + (M : Int), rt) w5) := by have := H5.out; rw [if_pos ⟨rfl, hp⟩] at this; exact this
        clear hp H5
        go_wp2
        exact HK.out _ _ _ _ _ _ _ _ _ _ _ _ _ _ _ _ _ _ _ _ _ _ true _ _ _ _ H6.out HZ5.out (fun _ => ⟨rfl, rfl, HFM.out⟩) (fun h => Bool.noConfusion h) (Nat.le_refl _) (fun _ h => absurd rfl h)
      · have tp : (pp == (pg : Int) - (M : Int)) = false := by simpa using hp
        have H6 : Hid (Mo w0 d (k + 100) N' (pg : Int) (qf, qr) w5) := by have := H5.out; rw [if_neg (fun h => hp h.2)] at this; exact this
        clear hp H5
        go_wp2
        exact HK.out _ _ _ _ _ _ _ _ _ _ _ _ _ _ _ _ _ _ _ _ _ _ false _ _ _ _ H6.out HZ5.out (fun h => Bool.noConfusion h) (fun _ => ⟨rfl, rfl⟩) (Nat.le_refl _) (fun _ h => absurd rfl h)
    · have tx : (x == 0) = false := by simpa using hx
      have H6 : Hid (Mo w0 d (k + 100) N' (pg : Int) (qf, qr) w5) := by have := H5.out; rw [if_neg (fun h => hx h.1)] at this; exact this
      clear hx H5 hfm
      go_wp2
      exact HK.out _ _ _ _ _ _ _ _ _ _ _ _ _ _ _ _ _ _ _ _ _ _ false _ _ _ _ H6.out HZ5.out (fun h => Bool.noConfusion h) (fun _ => ⟨rfl, rfl⟩) (Nat.le_refl _) (fun _ h => absurd rfl h)
  · have hq1 : (kd == 1) = false := by simpa using hk1
    clear hk1
    go_wp2
    exact HK.out _ _ _ _ _ _ _ _ _ _ _ _ _ _ _ _ _ _ _ _ _ _ false _ _ _ _ (HTZ.out.mono (by omega) (Nat.le_refl _)) HZ.out (fun h => Bool.noConfusion h) (fun _ => ⟨rfl, rfl⟩) HN1.out.1 (fun h _ => HN1.out.2 h)
end Go.Proofs.YtpfmmlbakbhklaaGreatDoor
namespace Go.Proofs.YtpfmmlbakbhklaaGreatDoor
open Go.RowKit
/-- An 'if' of a piece of code, by its test's slot. -/
def pickI (t : Nat) : Code → Option Code
  | .seq a b => match pickI t a with
    | some c => some c
    | none => pickI t b
  | .block _ c => pickI t c
  | .loop c => pickI t c
  | .scope c => pickI t c
  | .cond (.tmp n) a b => bif Nat.beq n t then some (.cond (.tmp n) a b) else match pickI t a with
    | some c => some c
    | none => pickI t b
  | _ => none
set_option maxRecDepth 100000 in
set_option maxHeartbeats 8000000 in
theorem mC {Q : Exit → Act → World → Prop} {w0 w : World} {d : Sd} {k N' z pg : Nat} {kd wh pp fm rt qf qr : Int} {c0 c1 c2 c3 c4 c5 c6 c11 c13 c14 c15 c16 c17 c18 c19 c20 c21 c22 c23 c24 c25 c26 c27 c28 c29 c30 c31 c32 c33 c34 c35 c36 c37 c38 c39 c40 c41 c42 c43 c44 c45 c46 c47 c48 c49 c50 c51 c52 c53 c54 c55 c56 c57 c58 c59 c60 c61 c62 c63 c64 c65 c66 c67 c68 c69 c70 c71 c72 c73 c74 c75 c76 c77 c78 c79 c80 c81 c82 c83 c84 c85 c86 c87 c88 c89 c90 c91 c92 c93 c94 c95 c96 c97 c98 c99 c100 c101 c102 c103 c104 c105 c106 c107 c108 c109 c111 c112 c113 c114 c115 c116 c117 c118 c119 c120 c121 c122 c123 c124 c125 c126 c127 c128 c129 c130 c131 c132 c133 c134 c135 c136 c137 c138 c139 c140 c141 c142 c143 c144 c145 c146 c147 c148 c149 c150 c151 c152 c153 c154 c155 c156 c157 c158 c159 c160 c161 c162 c163 c164 c165 c166 c167 c168 c169 c170 c171 c172 c173 c174 c175 c176 c177 c178 c179 c180 c181 c182 c183 c184 c185 c186 c187 c188 c189 c190 c191 c192 c193 c194 c195 c196 c197 c198 c199 c200 c201 c202 c203 c204 c205 c206 c207 c208 c209 c210 c211 c212 c213 c214 c215 c216 c217 c218 : Value}
    (hx : Mo w0 d (k) (N' + 2 + 1) (pg : Int) (qf, qr) w) (hk : k + 1000 ≤ bnd) (hz : w.heap[z]? = some (.cells #[.int .i64 kd, .int .i64 wh, .int .i64 pp, .int .i64 fm, .int .i64 rt] 27 (0, 0)))
    (hK : ∀ (u13 u14 u111 u112 u113 u114 u115 u116 u117 u118 u119 u120 u121 u122 u123 u124 u125 u126 u127 u128 u129 u130 u131 u132 u133 u134 u135 u136 u137 u138 u139 u140 u141 u142 u143 u144 u145 u146 u147 : Value) (q5 q6 : Int) (w' : World), (Mo w0 d (k + 100) (N' + 2) (pg : Int) (q5, q6) w') → (w'.heap[z]? = some (.cells #[.int .i64 kd, .int .i64 wh, .int .i64 pp, .int .i64 fm, .int .i64 rt] 27 (0, 0))) → Q .normal ⟨#[c0, c1, c2, c3, c4, c5, c6, .pointer (some ⟨d.a0, 0, none⟩), .int .i64 q5, .int .i64 q6, .int .i64 pg, c11, .pointer (some ⟨z, 0, none⟩), u13, u14, c15, c16, c17, c18, c19, c20, c21, c22, c23, c24, c25, c26, c27, c28, c29, c30, c31, c32, c33, c34, c35, c36, c37, c38, c39, c40, c41, c42, c43, c44, c45, c46, c47, c48, c49, c50, c51, c52, c53, c54, c55, c56, c57, c58, c59, c60, c61, c62, c63, c64, c65, c66, c67, c68, c69, c70, c71, c72, c73, c74, c75, c76, c77, c78, c79, c80, c81, c82, c83, c84, c85, c86, c87, c88, c89, c90, c91, c92, c93, c94, c95, c96, c97, c98, c99, c100, c101, c102, c103, c104, c105, c106, c107, c108, c109, .bool true, u111, u112, u113, u114, u115, u116, u117, u118, u119, u120, u121, u122, u123, u124, u125, u126, u127, u128, u129, u130, u131, u132, u133, u134, u135, u136, u137, u138, u139, u140, u141, u142, u143, u144, u145, u146, u147, c148, c149, c150, c151, c152, c153, c154, c155, c156, c157, c158, c159, c160, c161, c162, c163, c164, c165, c166, c167, c168, c169, c170, c171, c172, c173, c174, c175, c176, c177, c178, c179, c180, c181, c182, c183, c184, c185, c186, c187, c188, c189, c190, c191, c192, c193, c194, c195, c196, c197, c198, c199, c200, c201, c202, c203, c204, c205, c206, c207, c208, c209, c210, c211, c212, c213, c214, c215, c216, c217, c218], []⟩ w') :
    Code.wp Tryz.prog ((Tryz.f4.body.bind (pickI 110)).getD .skip) Q ⟨#[c0, c1, c2, c3, c4, c5, c6, .pointer (some ⟨d.a0, 0, none⟩), .int .i64 qf, .int .i64 qr, .int .i64 pg, c11, .pointer (some ⟨z, 0, none⟩), c13, c14, c15, c16, c17, c18, c19, c20, c21, c22, c23, c24, c25, c26, c27, c28, c29, c30, c31, c32, c33, c34, c35, c36, c37, c38, c39, c40, c41, c42, c43, c44, c45, c46, c47, c48, c49, c50, c51, c52, c53, c54, c55, c56, c57, c58, c59, c60, c61, c62, c63, c64, c65, c66, c67, c68, c69, c70, c71, c72, c73, c74, c75, c76, c77, c78, c79, c80, c81, c82, c83, c84, c85, c86, c87, c88, c89, c90, c91, c92, c93, c94, c95, c96, c97, c98, c99, c100, c101, c102, c103, c104, c105, c106, c107, c108, c109, .bool true, c111, c112, c113, c114, c115, c116, c117, c118, c119, c120, c121, c122, c123, c124, c125, c126, c127, c128, c129, c130, c131, c132, c133, c134, c135, c136, c137, c138, c139, c140, c141, c142, c143, c144, c145, c146, c147, c148, c149, c150, c151, c152, c153, c154, c155, c156, c157, c158, c159, c160, c161, c162, c163, c164, c165, c166, c167, c168, c169, c170, c171, c172, c173, c174, c175, c176, c177, c178, c179, c180, c181, c182, c183, c184, c185, c186, c187, c188, c189, c190, c191, c192, c193, c194, c195, c196, c197, c198, c199, c200, c201, c202, c203, c204, c205, c206, c207, c208, c209, c210, c211, c212, c213, c214, c215, c216, c217, c218], []⟩ w := by
  have HK : Hid (∀ (u13 u14 u111 u112 u113 u114 u115 u116 u117 u118 u119 u120 u121 u122 u123 u124 u125 u126 u127 u128 u129 u130 u131 u132 u133 u134 u135 u136 u137 u138 u139 u140 u141 u142 u143 u144 u145 u146 u147 : Value) (q5 q6 : Int) (w' : World), (Mo w0 d (k + 100) (N' + 2) (pg : Int) (q5, q6) w') → (w'.heap[z]? = some (.cells #[.int .i64 kd, .int .i64 wh, .int .i64 pp, .int .i64 fm, .int .i64 rt] 27 (0, 0))) → Q .normal ⟨#[c0, c1, c2, c3, c4, c5, c6, .pointer (some ⟨d.a0, 0, none⟩), .int .i64 q5, .int .i64 q6, .int .i64 pg, c11, .pointer (some ⟨z, 0, none⟩), u13, u14, c15, c16, c17, c18, c19, c20, c21, c22, c23, c24, c25, c26, c27, c28, c29, c30, c31, c32, c33, c34, c35, c36, c37, c38, c39, c40, c41, c42, c43, c44, c45, c46, c47, c48, c49, c50, c51, c52, c53, c54, c55, c56, c57, c58, c59, c60, c61, c62, c63, c64, c65, c66, c67, c68, c69, c70, c71, c72, c73, c74, c75, c76, c77, c78, c79, c80, c81, c82, c83, c84, c85, c86, c87, c88, c89, c90, c91, c92, c93, c94, c95, c96, c97, c98, c99, c100, c101, c102, c103, c104, c105, c106, c107, c108, c109, .bool true, u111, u112, u113, u114, u115, u116, u117, u118, u119, u120, u121, u122, u123, u124, u125, u126, u127, u128, u129, u130, u131, u132, u133, u134, u135, u136, u137, u138, u139, u140, u141, u142, u143, u144, u145, u146, u147, c148, c149, c150, c151, c152, c153, c154, c155, c156, c157, c158, c159, c160, c161, c162, c163, c164, c165, c166, c167, c168, c169, c170, c171, c172, c173, c174, c175, c176, c177, c178, c179, c180, c181, c182, c183, c184, c185, c186, c187, c188, c189, c190, c191, c192, c193, c194, c195, c196, c197, c198, c199, c200, c201, c202, c203, c204, c205, c206, c207, c208, c209, c210, c211, c212, c213, c214, c215, c216, c217, c218], []⟩ w') := hid hK
  clear hK
  have HTZ := hid hx
  have HZ := hid hz
  have HKB := hid hk
  clear hx hz hk
  conv => arg 2; whnf
  have y2 := P.cell_of (i := 2) HZ.out rfl
  have HC := hid (HTZ.out.unmap (N := N' + 2) (by have := HKB.out; omega) pp)
  have HQI := hid HTZ.out.q_in
  go_wp2_with fail
  refine HC.out.mono ?_
  rintro e w5 ⟨y, x, rfl, hyx, h5, hKp⟩
  have HZ5 := hid (hKp _ _ _ (by decide) (by decide) (by decide) (by decide) HZ.out)
  have H5 := hid h5
  have HYX := hid hyx
  clear h5 hKp hyx y2 HC
  have y2 := P.cell_of (i := 2) HZ5.out rfl
  by_cases hp : pp = (pg : Int)
  · have tp : (pp == (pg : Int)) = true := by simpa using hp
    have H6 : Hid (Mo w0 d (k + 100) (N' + 2) (pg : Int) (0, 0) w5) := by have := H5.out; rw [if_pos hp] at this; exact this
    obtain ⟨g1, g2⟩ := HYX.out hp
    clear hp H5
    by_cases hx : x = 0
    · have g2' := g2 hx
      subst hx
      have g3 : y = qf := g2'
      subst g3
      have hq4 : 0 < qr := by
        have h0 : 0 ≤ qr := HQI.out.1
        have : qr ≠ 0 := by simpa using g1.symm
        omega
      have tg : decide (0 < qr) = true := decide_eq_true hq4
      have t4 : (y != y) = false := by simp
      clear g1 g2
      go_wp2
      exact HK.out _ _ _ _ _ _ _ _ _ _ _ _ _ _ _ _ _ _ _ _ _ _ _ _ _ _ _ _ _ _ _ _ _ _ _ _ _ _ _ _ _ _ H6.out HZ5.out
    · have tx : (x == 0) = false := by simpa using hx
      have hq4 : ¬ 0 < qr := by
        have h0 : qr = 0 := by rw [tx] at g1; simpa using g1.symm
        omega
      have tg : decide (0 < qr) = false := decide_eq_false hq4
      clear g1 g2 hx
      go_wp2
      exact HK.out _ _ _ _ _ _ _ _ _ _ _ _ _ _ _ _ _ _ _ _ _ _ _ _ _ _ _ _ _ _ _ _ _ _ _ _ _ _ _ _ _ _ H6.out HZ5.out
  · have tp : (pp == (pg : Int)) = false := by simpa using hp
    have H6 : Hid (Mo w0 d (k + 100) (N' + 2) (pg : Int) (qf, qr) w5) := by have := H5.out; rw [if_neg hp] at this; exact this
    clear hp H5
    go_wp2
    exact HK.out _ _ _ _ _ _ _ _ _ _ _ _ _ _ _ _ _ _ _ _ _ _ _ _ _ _ _ _ _ _ _ _ _ _ _ _ _ _ _ _ _ _ H6.out HZ5.out
end Go.Proofs.YtpfmmlbakbhklaaGreatDoor
namespace Go.Proofs.YtpfmmlbakbhklaaGreatDoor
open Go.RowKit
set_option maxRecDepth 100000 in
set_option maxHeartbeats 8000000 in
theorem mD {Q : Exit → Act → World → Prop} {w0 w : World} {d : Sd} {k N' z pg : Nat} {kd wh pp fm rt qf qr : Int} {N1 : Nat} {c0 c1 c2 c3 c4 c5 c6 c8 c9 c11 c13 c14 c15 c16 c17 c18 c19 c20 c21 c22 c23 c24 c25 c26 c27 c28 c29 c30 c31 c32 c33 c34 c35 c36 c37 c38 c39 c40 c41 c42 c43 c44 c45 c46 c47 c48 c49 c50 c51 c52 c53 c54 c55 c56 c57 c58 c59 c60 c61 c62 c63 c64 c65 c66 c67 c68 c69 c70 c71 c72 c73 c74 c75 c76 c77 c78 c79 c80 c81 c82 c83 c84 c85 c86 c87 c88 c89 c90 c91 c92 c93 c94 c95 c96 c97 c98 c99 c100 c101 c102 c103 c104 c105 c106 c107 c108 c109 c110 c111 c112 c113 c114 c115 c116 c117 c118 c119 c120 c121 c122 c123 c124 c125 c126 c127 c128 c129 c130 c131 c132 c133 c134 c135 c136 c137 c138 c139 c140 c141 c142 c143 c144 c145 c146 c147 c148 c149 c150 c151 c152 c153 c154 c155 c156 c157 c158 c159 c160 c161 c162 c163 c164 c165 c166 c167 c168 c169 c170 c171 c172 c173 c174 c175 c176 c177 c178 c179 c180 c181 c182 c183 c184 c185 c186 c187 c188 c189 c190 c191 c192 c193 c194 c195 c196 c197 c198 c199 c200 c201 c202 c203 c204 c205 c206 c207 c208 c209 c210 c211 c212 c213 c214 c215 c216 c217 c218 : Value}
    (hx : Mo w0 d (k) N1 (pg : Int) (qf, qr) w) (hk : k + 1000 ≤ bnd) (hz : w.heap[z]? = some (.cells #[.int .i64 kd, .int .i64 wh, .int .i64 pp, .int .i64 fm, .int .i64 rt] 27 (0, 0))) (hn : N' ≤ N1 ∧ (kd ≠ 0 → kd ≠ 1 → kd ≠ 2 → N' + 3 ≤ N1))
    (hK : ∀ (u148 u149 u150 u151 u152 u153 u154 u155 u156 u157 u158 u159 u160 u161 u162 u163 u164 : Value) (b : Bool) (q8 : Int) (N4 : Nat) (w' : World), (Mo w0 d (k + 100) N4 (pg : Int) (qf, q8) w') → (w'.heap[z]? = some (.cells #[.int .i64 kd, .int .i64 wh, .int .i64 pp, .int .i64 fm, .int .i64 rt] 27 (0, 0))) → (b = true → q8 = rt) → (b = false → q8 = qr) → (N' ≤ N4) → Q .normal ⟨#[c0, c1, c2, c3, c4, c5, c6, .pointer (some ⟨d.a0, 0, none⟩), c8, c9, .int .i64 pg, c11, .pointer (some ⟨z, 0, none⟩), c13, c14, c15, c16, c17, c18, c19, c20, c21, c22, c23, c24, c25, c26, c27, c28, c29, c30, c31, c32, c33, c34, c35, c36, c37, c38, c39, c40, c41, c42, c43, c44, c45, c46, c47, c48, c49, c50, c51, c52, c53, c54, c55, c56, c57, c58, c59, c60, c61, c62, c63, c64, c65, c66, c67, c68, c69, c70, c71, c72, c73, c74, c75, c76, c77, c78, c79, c80, c81, c82, c83, c84, c85, c86, c87, c88, c89, c90, c91, c92, c93, c94, c95, c96, c97, c98, c99, c100, c101, c102, c103, c104, c105, c106, c107, c108, c109, c110, c111, c112, c113, c114, c115, c116, c117, c118, c119, c120, c121, c122, c123, c124, c125, c126, c127, c128, c129, c130, c131, c132, c133, c134, c135, c136, c137, c138, c139, c140, c141, c142, c143, c144, c145, c146, c147, u148, u149, u150, u151, u152, u153, u154, u155, u156, u157, u158, u159, u160, u161, u162, u163, u164, .bool b, c166, c167, c168, c169, c170, c171, c172, c173, c174, c175, c176, c177, c178, c179, c180, c181, c182, c183, c184, c185, c186, c187, c188, c189, c190, c191, c192, c193, c194, c195, c196, c197, c198, c199, c200, c201, c202, c203, c204, c205, c206, c207, c208, c209, c210, c211, c212, c213, c214, c215, c216, c217, c218], []⟩ w') :
    Code.wp Tryz.prog ((Tryz.f4.body.bind (pickR 25)).getD .skip) Q ⟨#[c0, c1, c2, c3, c4, c5, c6, .pointer (some ⟨d.a0, 0, none⟩), c8, c9, .int .i64 pg, c11, .pointer (some ⟨z, 0, none⟩), c13, c14, c15, c16, c17, c18, c19, c20, c21, c22, c23, c24, c25, c26, c27, c28, c29, c30, c31, c32, c33, c34, c35, c36, c37, c38, c39, c40, c41, c42, c43, c44, c45, c46, c47, c48, c49, c50, c51, c52, c53, c54, c55, c56, c57, c58, c59, c60, c61, c62, c63, c64, c65, c66, c67, c68, c69, c70, c71, c72, c73, c74, c75, c76, c77, c78, c79, c80, c81, c82, c83, c84, c85, c86, c87, c88, c89, c90, c91, c92, c93, c94, c95, c96, c97, c98, c99, c100, c101, c102, c103, c104, c105, c106, c107, c108, c109, c110, c111, c112, c113, c114, c115, c116, c117, c118, c119, c120, c121, c122, c123, c124, c125, c126, c127, c128, c129, c130, c131, c132, c133, c134, c135, c136, c137, c138, c139, c140, c141, c142, c143, c144, c145, c146, c147, c148, c149, c150, c151, c152, c153, c154, c155, c156, c157, c158, c159, c160, c161, c162, c163, c164, c165, c166, c167, c168, c169, c170, c171, c172, c173, c174, c175, c176, c177, c178, c179, c180, c181, c182, c183, c184, c185, c186, c187, c188, c189, c190, c191, c192, c193, c194, c195, c196, c197, c198, c199, c200, c201, c202, c203, c204, c205, c206, c207, c208, c209, c210, c211, c212, c213, c214, c215, c216, c217, c218], []⟩ w := by
  have HK : Hid (∀ (u148 u149 u150 u151 u152 u153 u154 u155 u156 u157 u158 u159 u160 u161 u162 u163 u164 : Value) (b : Bool) (q8 : Int) (N4 : Nat) (w' : World), (Mo w0 d (k + 100) N4 (pg : Int) (qf, q8) w') → (w'.heap[z]? = some (.cells #[.int .i64 kd, .int .i64 wh, .int .i64 pp, .int .i64 fm, .int .i64 rt] 27 (0, 0))) → (b = true → q8 = rt) → (b = false → q8 = qr) → (N' ≤ N4) → Q .normal ⟨#[c0, c1, c2, c3, c4, c5, c6, .pointer (some ⟨d.a0, 0, none⟩), c8, c9, .int .i64 pg, c11, .pointer (some ⟨z, 0, none⟩), c13, c14, c15, c16, c17, c18, c19, c20, c21, c22, c23, c24, c25, c26, c27, c28, c29, c30, c31, c32, c33, c34, c35, c36, c37, c38, c39, c40, c41, c42, c43, c44, c45, c46, c47, c48, c49, c50, c51, c52, c53, c54, c55, c56, c57, c58, c59, c60, c61, c62, c63, c64, c65, c66, c67, c68, c69, c70, c71, c72, c73, c74, c75, c76, c77, c78, c79, c80, c81, c82, c83, c84, c85, c86, c87, c88, c89, c90, c91, c92, c93, c94, c95, c96, c97, c98, c99, c100, c101, c102, c103, c104, c105, c106, c107, c108, c109, c110, c111, c112, c113, c114, c115, c116, c117, c118, c119, c120, c121, c122, c123, c124, c125, c126, c127, c128, c129, c130, c131, c132, c133, c134, c135, c136, c137, c138, c139, c140, c141, c142, c143, c144, c145, c146, c147, u148, u149, u150, u151, u152, u153, u154, u155, u156, u157, u158, u159, u160, u161, u162, u163, u164, .bool b, c166, c167, c168, c169, c170, c171, c172, c173, c174, c175, c176, c177, c178, c179, c180, c181, c182, c183, c184, c185, c186, c187, c188, c189, c190, c191, c192, c193, c194, c195, c196, c197, c198, c199, c200, c201, c202, c203, c204, c205, c206, c207, c208, c209, c210, c211, c212, c213, c214, c215, c216, c217, c218], []⟩ w') := hid hK
  clear hK
  have HTY := hid hx
  have HZ := hid hz
  have HKB := hid hk
  have HN3 := hid hn
  clear hx hz hk hn
  conv => arg 2; whnf
  have y0 := P.cell_of (i := 0) HZ.out rfl
  have y2 := P.cell_of (i := 2) HZ.out rfl
  by_cases hk3 : kd = 3
  · subst hk3
    have y4 := P.cell_of (i := 4) HZ.out rfl
    have HC := hid ((HTY.out.mono (Nat.le_refl _) (HN3.out.2 (by decide) (by decide) (by decide))).protect (N := N' + 2) (by have := HKB.out; omega) pp rt)
    go_wp2_with fail
    refine HC.out.mono ?_
    rintro e w5 ⟨x, rfl, h5, hKp⟩
    have HZ5 := hid (hKp _ _ _ (by decide) (by decide) (by decide) (by decide) HZ.out)
    have H5 := hid h5
    clear h5 hKp y0 y2 y4 HC
    have y2 := P.cell_of (i := 2) HZ5.out rfl
    by_cases hx : x = 0
    · subst hx
      by_cases hp : pp = (pg : Int)
      · have tp : (pp == (pg : Int)) = true := by simpa using hp
        have H6 : Hid (Mo w0 d (k + 100) (N' + 2) (pg : Int) (qf, rt) w5) := by have := H5.out; rw [if_pos ⟨rfl, hp⟩] at this; exact this
        clear hp H5
        go_wp2
        exact HK.out _ _ _ _ _ _ _ _ _ _ _ _ _ _ _ _ _ true _ _ _ H6.out HZ5.out (fun _ => rfl) (fun h => Bool.noConfusion h) (by omega)
      · have tp : (pp == (pg : Int)) = false := by simpa using hp
        have H6 : Hid (Mo w0 d (k + 100) (N' + 2) (pg : Int) (qf, qr) w5) := by have := H5.out; rw [if_neg (fun h => hp h.2)] at this; exact this
        clear hp H5
        go_wp2
        exact HK.out _ _ _ _ _ _ _ _ _ _ _ _ _ _ _ _ _ false _ _ _ H6.out HZ5.out (fun h => Bool.noConfusion h) (fun _ => rfl) (by omega)
    · have tx : (x == 0) = false := by simpa using hx
      have H6 : Hid (Mo w0 d (k + 100) (N' + 2) (pg : Int) (qf, qr) w5) := by have := H5.out; rw [if_neg (fun h => hx h.1)] at this; exact this
      clear hx H5
      go_wp2
      exact HK.out _ _ _ _ _ _ _ _ _ _ _ _ _ _ _ _ _ false _ _ _ H6.out HZ5.out (fun h => Bool.noConfusion h) (fun _ => rfl) (by omega)
  · have hq3 : (kd == 3) = false := by simpa using hk3
    clear hk3
    go_wp2
    exact HK.out _ _ _ _ _ _ _ _ _ _ _ _ _ _ _ _ _ false _ _ _ (HTY.out.mono (by omega) (Nat.le_refl _)) HZ.out (fun h => Bool.noConfusion h) (fun _ => rfl) HN3.out.1
end Go.Proofs.YtpfmmlbakbhklaaGreatDoor
namespace Go.Proofs.YtpfmmlbakbhklaaGreatDoor
open Go.RowKit
theorem cell_al {W : World} {p : Addr} {v : Value} (h : W.cell? p = some v) (o : Obj) : (W.alloc o).cell? p = some v := ((below_alloc W o).cell (World.block_lt_of_cell? W p h)).trans h
theorem st4_ne {W V : World} {p : Addr} {v : Value} (h : W.cell? p = some v) (k : V.cell? p = some v) (a b c e : Value) : ((((V.setCell ⟨W.heap.size, 0, none⟩ a).setCell ⟨W.heap.size, 1, none⟩ b).setCell ⟨W.heap.size, 2, none⟩ c).setCell ⟨W.heap.size, 3, none⟩ e).cell? p = some v := by
  have hlt := World.block_lt_of_cell? W p h
  exact (World.cell?_of_block (((((Px.refl W.heap.size V).set 0 a).set 1 b).set 2 c).set 3 e |>.block p.block (by omega))).trans k
theorem Mo.px {w0 W W' : World} {d : Sd} {k N g : Nat} {p : Int} {q : Int × Int} {c : Array Value} (h : Mo w0 d k N p q W) (hq : W.heap[g]? = some (.cells c 54 (0, 0))) (h0 : w0.heap.size ≤ g) (h00 : g ≠ 0) (hx : Px g W W') : Mo w0 d k N p q W' := by
  obtain ⟨s, ty, h⟩ := h
  have ap : ∀ {j : Nat} {c' : Array Value} {T : TypeId}, W.heap[j]? = some (.cells c' T (0, 0)) → T ≠ 54 → j ≠ g := by
    intro j c' T hj hT e
    rw [e, hq] at hj
    injection hj with hj
    injection hj with _ hj _
    exact hT hj.symm
  have keep : ∀ {j : Nat} {c' : Array Value} {T : TypeId}, W.heap[j]? = some (.cells c' T (0, 0)) → T ≠ 54 → W'.heap[j]? = some (.cells c' T (0, 0)) := fun hj hT => (hx.block _ (ap hj hT)).trans hj
  obtain ⟨dd, l, hm, -⟩ := h.fv.wo.mem
  obtain ⟨hc, hh⟩ := h.fv.wo.pool.head
  obtain ⟨r, hr⟩ := h.fv.wo.pool.row
  refine ⟨s, ty, ⟨keep h.fv.blk (by decide), h.fv.wo.px hx h00 (ap hm.head (by decide)) (ap (show W.heap[d.u.wb]? = _ from hm.row) (by decide)) (ap hh (by decide)) (ap hr (by decide)), keep h.fv.t0 (by decide), ?_, h.fv.lo, h.fv.bel.trans (hx.below h0)⟩, h.inv, h.r0, h.b, h.v, h.n⟩
  rcases h.fv.t1 with e | ⟨a1, e, i⟩
  · exact .inl e
  · exact .inr ⟨a1, e, keep i (by decide)⟩
set_option maxRecDepth 100000 in
set_option maxHeartbeats 8000000 in
theorem mE {Q : Exit → Act → World → Prop} {w0 w : World} {d : Sd} {k N1 pg : Nat} {qf qr : Int} {c0 c1 c2 c3 c4 c6 c8 c9 c11 c12 c13 c14 c15 c16 c17 c18 c19 c20 c21 c22 c23 c24 c25 c26 c27 c28 c29 c30 c31 c32 c33 c34 c35 c36 c37 c38 c39 c40 c41 c42 c43 c44 c45 c46 c47 c48 c49 c50 c51 c52 c53 c54 c55 c56 c57 c58 c59 c60 c61 c62 c63 c64 c65 c66 c67 c68 c69 c70 c71 c72 c73 c74 c75 c76 c77 c78 c79 c80 c81 c82 c83 c84 c85 c86 c87 c88 c89 c90 c91 c92 c93 c94 c95 c96 c97 c98 c99 c100 c101 c102 c103 c104 c105 c106 c107 c108 c109 c110 c111 c112 c113 c114 c115 c116 c117 c118 c119 c120 c121 c122 c123 c124 c125 c126 c127 c128 c129 c130 c131 c132 c133 c134 c135 c136 c137 c138 c139 c140 c141 c142 c143 c144 c145 c146 c147 c148 c149 c150 c151 c152 c153 c154 c155 c156 c157 c158 c159 c160 c161 c162 c163 c164 c165 c166 c167 c168 c169 c170 c171 c172 c173 c174 c175 c176 c177 c178 c179 c180 c181 c182 c183 c184 c185 c186 c187 c188 c189 c190 c191 c192 c193 c194 c195 c196 c197 c198 c199 c200 c201 c202 c203 c204 c205 c206 c207 c208 c209 c210 c211 c212 c213 c214 c215 c216 c217 c218 : Value}
    (hx : Mo w0 d (k) N1 (pg : Int) (qf, qr) w) (hk : k + 1000 ≤ bnd)
    (hK : ∀ (u175 u176 u177 u178 u179 u180 u181 u182 : Value) (z2 : Nat) (x : Fd) (w' : World), (w'.heap[z2]? = some (.cells #[.int .i64 x.f, .int .i64 x.r, .int .i64 x.v, .int .i64 x.e] 54 (0, 0))) → (Fnd (qf, qr) x) → (Mo w0 d (k + 100) N1 (pg : Int) (qf, qr) w') → Q .normal ⟨#[c0, c1, c2, c3, c4, .pointer (some ⟨d.g, 0, none⟩), c6, .pointer (some ⟨d.a0, 0, none⟩), c8, c9, .int .i64 pg, c11, c12, c13, c14, c15, c16, c17, .pointer (some ⟨z2, 0, none⟩), c19, c20, c21, c22, c23, c24, c25, c26, c27, c28, c29, c30, c31, c32, c33, c34, c35, c36, c37, c38, c39, c40, c41, c42, c43, c44, c45, c46, c47, c48, c49, c50, c51, c52, c53, c54, c55, c56, c57, c58, c59, c60, c61, c62, c63, c64, c65, c66, c67, c68, c69, c70, c71, c72, c73, c74, c75, c76, c77, c78, c79, c80, c81, c82, c83, c84, c85, c86, c87, c88, c89, c90, c91, c92, c93, c94, c95, c96, c97, c98, c99, c100, c101, c102, c103, c104, c105, c106, c107, c108, c109, c110, c111, c112, c113, c114, c115, c116, c117, c118, c119, c120, c121, c122, c123, c124, c125, c126, c127, c128, c129, c130, c131, c132, c133, c134, c135, c136, c137, c138, c139, c140, c141, c142, c143, c144, c145, c146, c147, c148, c149, c150, c151, c152, c153, c154, c155, c156, c157, c158, c159, c160, c161, c162, c163, c164, c165, c166, c167, c168, c169, c170, c171, c172, c173, c174, u175, u176, u177, u178, u179, u180, u181, u182, c183, c184, c185, c186, c187, c188, c189, c190, c191, c192, c193, c194, c195, c196, c197, c198, c199, c200, c201, c202, c203, c204, c205, c206, c207, c208, c209, c210, c211, c212, c213, c214, c215, c216, c217, c218], []⟩ w') :
    Code.wp Tryz.prog ((Tryz.f4.body.bind (pickR 28)).getD .skip) Q ⟨#[c0, c1, c2, c3, c4, .pointer (some ⟨d.g, 0, none⟩), c6, .pointer (some ⟨d.a0, 0, none⟩), c8, c9, .int .i64 pg, c11, c12, c13, c14, c15, c16, c17, c18, c19, c20, c21, c22, c23, c24, c25, c26, c27, c28, c29, c30, c31, c32, c33, c34, c35, c36, c37, c38, c39, c40, c41, c42, c43, c44, c45, c46, c47, c48, c49, c50, c51, c52, c53, c54, c55, c56, c57, c58, c59, c60, c61, c62, c63, c64, c65, c66, c67, c68, c69, c70, c71, c72, c73, c74, c75, c76, c77, c78, c79, c80, c81, c82, c83, c84, c85, c86, c87, c88, c89, c90, c91, c92, c93, c94, c95, c96, c97, c98, c99, c100, c101, c102, c103, c104, c105, c106, c107, c108, c109, c110, c111, c112, c113, c114, c115, c116, c117, c118, c119, c120, c121, c122, c123, c124, c125, c126, c127, c128, c129, c130, c131, c132, c133, c134, c135, c136, c137, c138, c139, c140, c141, c142, c143, c144, c145, c146, c147, c148, c149, c150, c151, c152, c153, c154, c155, c156, c157, c158, c159, c160, c161, c162, c163, c164, c165, c166, c167, c168, c169, c170, c171, c172, c173, c174, c175, c176, c177, c178, c179, c180, c181, c182, c183, c184, c185, c186, c187, c188, c189, c190, c191, c192, c193, c194, c195, c196, c197, c198, c199, c200, c201, c202, c203, c204, c205, c206, c207, c208, c209, c210, c211, c212, c213, c214, c215, c216, c217, c218], []⟩ w := by
  have HK : Hid (∀ (u175 u176 u177 u178 u179 u180 u181 u182 : Value) (z2 : Nat) (x : Fd) (w' : World), (w'.heap[z2]? = some (.cells #[.int .i64 x.f, .int .i64 x.r, .int .i64 x.v, .int .i64 x.e] 54 (0, 0))) → (Fnd (qf, qr) x) → (Mo w0 d (k + 100) N1 (pg : Int) (qf, qr) w') → Q .normal ⟨#[c0, c1, c2, c3, c4, .pointer (some ⟨d.g, 0, none⟩), c6, .pointer (some ⟨d.a0, 0, none⟩), c8, c9, .int .i64 pg, c11, c12, c13, c14, c15, c16, c17, .pointer (some ⟨z2, 0, none⟩), c19, c20, c21, c22, c23, c24, c25, c26, c27, c28, c29, c30, c31, c32, c33, c34, c35, c36, c37, c38, c39, c40, c41, c42, c43, c44, c45, c46, c47, c48, c49, c50, c51, c52, c53, c54, c55, c56, c57, c58, c59, c60, c61, c62, c63, c64, c65, c66, c67, c68, c69, c70, c71, c72, c73, c74, c75, c76, c77, c78, c79, c80, c81, c82, c83, c84, c85, c86, c87, c88, c89, c90, c91, c92, c93, c94, c95, c96, c97, c98, c99, c100, c101, c102, c103, c104, c105, c106, c107, c108, c109, c110, c111, c112, c113, c114, c115, c116, c117, c118, c119, c120, c121, c122, c123, c124, c125, c126, c127, c128, c129, c130, c131, c132, c133, c134, c135, c136, c137, c138, c139, c140, c141, c142, c143, c144, c145, c146, c147, c148, c149, c150, c151, c152, c153, c154, c155, c156, c157, c158, c159, c160, c161, c162, c163, c164, c165, c166, c167, c168, c169, c170, c171, c172, c173, c174, u175, u176, u177, u178, u179, u180, u181, u182, c183, c184, c185, c186, c187, c188, c189, c190, c191, c192, c193, c194, c195, c196, c197, c198, c199, c200, c201, c202, c203, c204, c205, c206, c207, c208, c209, c210, c211, c212, c213, c214, c215, c216, c217, c218], []⟩ w') := hid hK
  clear hK
  have HT := hid (hx.below (Below.refl w.heap.size w).drew)
  have HKB := hid hk
  have HG : Hid (∀ W k', Mo w0 d k' N1 (pg : Int) (qf, qr) W → W.cell? ⟨d.g, 0, none⟩ = some (.pointer (some ⟨d.u.mp, 0, none⟩))) := fun W k' h => P.cell_of (i := 0) h.choose_spec.choose_spec.fv.blk rfl
  have H18 : Hid (∀ W, Hid (Mo w0 d k N1 (pg : Int) (qf, qr) W) → Calls Tryz.prog 18 #[.pointer (some ⟨d.a0, 0, none⟩)] W fun e w' => e = .returned (.int .i64 d.r0) ∧ (w'.cell? ⟨d.g, 0, none⟩ = some (.pointer (some ⟨d.u.mp, 0, none⟩))) ∧ Hid (Mo w0 d k N1 (pg : Int) (qf, qr) w')) := fun W h => h.out.root.mono fun e w' ⟨a, b⟩ => by rw [b]; exact ⟨a, HG.out _ _ h.out, h⟩
  have H25 : Hid (∀ W, Hid (Mo w0 d k N1 (pg : Int) (qf, qr) W) → Calls Tryz.prog 25 #[.pointer (some ⟨d.u.mp, 0, none⟩), .int .i64 d.r0, .int .i64 pg, .int .i64 0] (W.alloc (.cells #[.int .i64 0, .int .i64 0, .int .i64 0, .int .i64 0] 54)) fun e w' => ∃ xf xr xv xe : Int, e = .returned (.agg #[.int .i64 xf, .int .i64 xr, .int .i64 xv, .int .i64 xe]) ∧ (w'.cell? ⟨d.g, 0, none⟩ = some (.pointer (some ⟨d.u.mp, 0, none⟩))) ∧ (w'.frozen? ⟨W.heap.size, 0, none⟩ = false ∧ w'.frozen? ⟨W.heap.size, 1, none⟩ = false ∧ w'.frozen? ⟨W.heap.size, 2, none⟩ = false ∧ w'.frozen? ⟨W.heap.size, 3, none⟩ = false ∧ w'.cell? ⟨W.heap.size, 0, none⟩ = some (.int .i64 0) ∧ w'.cell? ⟨W.heap.size, 1, none⟩ = some (.int .i64 0) ∧ w'.cell? ⟨W.heap.size, 2, none⟩ = some (.int .i64 0) ∧ w'.cell? ⟨W.heap.size, 3, none⟩ = some (.int .i64 0)) ∧ Hid (Fnd (qf, qr) ⟨xf, xr, xv, xe⟩ ∧ Mo w0 d (k + 4) N1 (pg : Int) (qf, qr) w' ∧ w'.heap[W.heap.size]? = some (.cells #[.int .i64 0, .int .i64 0, .int .i64 0, .int .i64 0] 54 (0, 0)) ∧ w0.heap.size ≤ W.heap.size ∧ W.heap.size ≠ 0)) := fun W h => by
    refine ((h.out.below (below_alloc W (.cells #[.int .i64 0, .int .i64 0, .int .i64 0, .int .i64 0] 54))).walk (by have := HKB.out; omega)).mono ?_
    rintro e w' ⟨x, a, b, c, hKp⟩
    have hz := hKp _ _ _ (by decide) (by decide) (by decide) (by decide) (heap_alloc_new W (.cells #[.int .i64 0, .int .i64 0, .int .i64 0, .int .i64 0] 54))
    exact ⟨x.f, x.r, x.v, x.e, a, HG.out _ _ c, ⟨P.free_of hz, P.free_of hz, P.free_of hz, P.free_of hz, P.cell_of (i := 0) hz rfl, P.cell_of (i := 1) hz rfl, P.cell_of (i := 2) hz rfl, P.cell_of (i := 3) hz rfl⟩, b, c, hz, h.out.choose_spec.choose_spec.fv.bel.size, by have := lt_of_block h.out.choose_spec.choose_spec.fv.blk; omega⟩
  have H25p : Hid (∀ W, Hid (Mo w0 d k N1 (pg : Int) (qf, qr) W) → Calls Tryz.prog 25 #[.pointer (some ⟨d.u.mp, 0, none⟩), .int .i64 d.r0, .int .i64 pg, .int .i64 0] W fun e w' => ∃ xf xr xv xe : Int, e = .returned (.agg #[.int .i64 xf, .int .i64 xr, .int .i64 xv, .int .i64 xe]) ∧ (w'.cell? ⟨d.g, 0, none⟩ = some (.pointer (some ⟨d.u.mp, 0, none⟩))) ∧ Hid (Fnd (qf, qr) ⟨xf, xr, xv, xe⟩ ∧ Mo w0 d (k + 4) N1 (pg : Int) (qf, qr) w')) := fun W h => by
    refine (h.out.walk (by have := HKB.out; omega)).mono ?_
    rintro e w' ⟨x, a, b, c, -⟩
    exact ⟨x.f, x.r, x.v, x.e, a, HG.out _ _ c, b, c⟩
  have H18t : Hid (∀ W z, Hid (Mo w0 d k N1 (pg : Int) (qf, qr) (W) ∧ (World.heap (W))[z]? = some (.cells #[.int .i64 0, .int .i64 0, .int .i64 0, .int .i64 0] 54 (0, 0)) ∧ w0.heap.size ≤ z ∧ z ≠ 0) → Calls Tryz.prog 18 #[.pointer (some ⟨d.a0, 0, none⟩)] W fun e w' => e = .returned (.int .i64 d.r0) ∧ (w'.cell? ⟨d.g, 0, none⟩ = some (.pointer (some ⟨d.u.mp, 0, none⟩))) ∧ Hid (Mo w0 d k N1 (pg : Int) (qf, qr) (w') ∧ (World.heap (w'))[z]? = some (.cells #[.int .i64 0, .int .i64 0, .int .i64 0, .int .i64 0] 54 (0, 0)) ∧ w0.heap.size ≤ z ∧ z ≠ 0)) := fun W z h => h.out.1.root.mono fun e w' ⟨a, b⟩ => by rw [b]; exact ⟨a, HG.out _ _ h.out.1, h⟩
  have H25t : Hid (∀ W z, Hid (Mo w0 d k N1 (pg : Int) (qf, qr) (W) ∧ (World.heap (W))[z]? = some (.cells #[.int .i64 0, .int .i64 0, .int .i64 0, .int .i64 0] 54 (0, 0)) ∧ w0.heap.size ≤ z ∧ z ≠ 0) → Calls Tryz.prog 25 #[.pointer (some ⟨d.u.mp, 0, none⟩), .int .i64 d.r0, .int .i64 pg, .int .i64 0] W fun e w' => ∃ xf xr xv xe : Int, e = .returned (.agg #[.int .i64 xf, .int .i64 xr, .int .i64 xv, .int .i64 xe]) ∧ (w'.cell? ⟨d.g, 0, none⟩ = some (.pointer (some ⟨d.u.mp, 0, none⟩))) ∧ (w'.frozen? ⟨z, 0, none⟩ = false ∧ w'.frozen? ⟨z, 1, none⟩ = false ∧ w'.frozen? ⟨z, 2, none⟩ = false ∧ w'.frozen? ⟨z, 3, none⟩ = false ∧ w'.cell? ⟨z, 0, none⟩ = some (.int .i64 0) ∧ w'.cell? ⟨z, 1, none⟩ = some (.int .i64 0) ∧ w'.cell? ⟨z, 2, none⟩ = some (.int .i64 0) ∧ w'.cell? ⟨z, 3, none⟩ = some (.int .i64 0)) ∧ Hid (Fnd (qf, qr) ⟨xf, xr, xv, xe⟩ ∧ Mo w0 d (k + 4) N1 (pg : Int) (qf, qr) w' ∧ w'.heap[z]? = some (.cells #[.int .i64 0, .int .i64 0, .int .i64 0, .int .i64 0] 54 (0, 0)) ∧ w0.heap.size ≤ z ∧ z ≠ 0)) := fun W z h => by
    refine (h.out.1.walk (by have := HKB.out; omega)).mono ?_
    rintro e w' ⟨x, a, b, c, hKp⟩
    have hz := hKp _ _ _ (by decide) (by decide) (by decide) (by decide) h.out.2.1
    exact ⟨x.f, x.r, x.v, x.e, a, HG.out _ _ c, ⟨P.free_of hz, P.free_of hz, P.free_of hz, P.free_of hz, P.cell_of (i := 0) hz rfl, P.cell_of (i := 1) hz rfl, P.cell_of (i := 2) hz rfl, P.cell_of (i := 3) hz rfl⟩, b, c, hz, h.out.2.2⟩
  have HT2 : Hid (Mo w0 d k N1 (pg : Int) (qf, qr) ((w.alloc (.cells #[.int .i64 0, .int .i64 0, .int .i64 0, .int .i64 0] 54)).drew) ∧ (World.heap ((w.alloc (.cells #[.int .i64 0, .int .i64 0, .int .i64 0, .int .i64 0] 54)).drew))[w.heap.size]? = some (.cells #[.int .i64 0, .int .i64 0, .int .i64 0, .int .i64 0] 54 (0, 0)) ∧ w0.heap.size ≤ w.heap.size ∧ w.heap.size ≠ 0) := ⟨(hx.below (below_alloc w (.cells #[.int .i64 0, .int .i64 0, .int .i64 0, .int .i64 0] 54))).below (Below.refl _ _).drew, heap_alloc_new w (.cells #[.int .i64 0, .int .i64 0, .int .i64 0, .int .i64 0] 54), hx.choose_spec.choose_spec.fv.bel.size, by have := lt_of_block hx.choose_spec.choose_spec.fv.blk; omega⟩
  have hSw := HG.out _ _ hx
  have hSa := HG.out _ _ HT2.out.1
  have hS0 := HG.out _ _ HT.out
  clear hx hk
  conv => arg 2; whnf
  go_region_held3 (fun w' => w'.cell? ⟨d.g, 0, none⟩ = some (.pointer (some ⟨d.u.mp, 0, none⟩))) (first | with_reducible exact hS0 | with_reducible assumption | with_reducible exact cell_al (by assumption) _ | with_reducible exact st4_ne hS5 hS6 _ _ _ _ | with_reducible exact st4_ne hSw hS6 _ _ _ _ | with_reducible exact hSa)
    (first
      | (go_at_call 18; refine (H18.out _ (by assumption)).mono ?_; rintro e5 w5 ⟨rfl, hS5, HT5⟩)
      | (go_at_call 18; refine (H18t.out _ _ (by assumption)).mono ?_; rintro e5 w5 ⟨rfl, hS5, HT5⟩)
      | (go_at_call 25; refine (H25t.out _ _ (by assumption)).mono ?_; rintro e6 w6 ⟨xf, xr, xv, xe, rfl, hS6, ⟨fz0, fz1, fz2, fz3, cz0, cz1, cz2, cz3⟩, H6⟩)
      | (go_at_call 25; refine (H25p.out _ (by assumption)).mono ?_; rintro e6 w6 ⟨xf, xr, xv, xe, rfl, hS6, H6p⟩)
      | (go_at_call 25; refine (H25.out _ (by assumption)).mono ?_; rintro e6 w6 ⟨xf, xr, xv, xe, rfl, hS6, ⟨fz0, fz1, fz2, fz3, cz0, cz1, cz2, cz3⟩, H6⟩))
  all_goals first
    | exact HK.out _ _ _ _ _ _ _ _ _ ⟨xf, xr, xv, xe⟩ _ (heap_alloc_new w6 _) H6p.out.1 ((H6p.out.2.below (below_alloc w6 _)).mono (by omega) (Nat.le_refl _))
    | (have a0 := P.heap_setCell_self (i := 0) H6.out.2.2.1 (.int .i64 xf); have a1 := P.heap_setCell_self (i := 1) a0 (.int .i64 xr); have a2 := P.heap_setCell_self (i := 2) a1 (.int .i64 xv); have a3 := P.heap_setCell_self (i := 3) a2 (.int .i64 xe); exact HK.out _ _ _ _ _ _ _ _ _ ⟨xf, xr, xv, xe⟩ _ a3 H6.out.1 ((H6.out.2.1.px H6.out.2.2.1 H6.out.2.2.2.1 H6.out.2.2.2.2 (((((Px.refl _ _).set 0 _).set 1 _).set 2 _).set 3 _)).mono (by omega) (Nat.le_refl _)))
end Go.Proofs.YtpfmmlbakbhklaaGreatDoor
namespace Go.Proofs.YtpfmmlbakbhklaaGreatDoor
open Go.RowKit
set_option maxRecDepth 100000 in
set_option maxHeartbeats 8000000 in
theorem mF {Q : Exit → Act → World → Prop} {w : World} {z2 : Nat} {xf xr xv xe g : Int} {c0 c1 c2 c3 c4 c5 c6 c7 c10 c11 c12 c13 c14 c19 c20 c21 c22 c23 c24 c25 c26 c27 c28 c29 c30 c31 c32 c33 c34 c35 c36 c37 c38 c39 c40 c41 c42 c43 c44 c45 c46 c47 c48 c49 c50 c51 c52 c53 c54 c55 c56 c57 c58 c59 c60 c61 c62 c63 c64 c65 c66 c67 c68 c69 c70 c71 c72 c73 c74 c75 c76 c77 c78 c79 c80 c81 c82 c83 c84 c85 c86 c87 c88 c89 c90 c91 c92 c93 c94 c95 c96 c97 c98 c99 c100 c101 c102 c103 c104 c105 c106 c107 c108 c109 c110 c111 c112 c113 c114 c115 c116 c117 c118 c119 c120 c121 c122 c123 c124 c125 c126 c127 c128 c129 c130 c131 c132 c133 c134 c135 c136 c137 c138 c139 c140 c141 c142 c143 c144 c145 c146 c147 c148 c149 c150 c151 c152 c153 c154 c155 c156 c157 c158 c159 c160 c161 c162 c163 c164 c165 c166 c167 c168 c169 c170 c171 c172 c173 c174 c175 c176 c177 c178 c179 c180 c181 c182 c183 c184 c185 c186 c187 c188 c189 c190 c191 c192 c193 c194 c195 c196 c197 c198 c199 c200 c201 c202 c203 c204 c205 c206 c207 c208 c209 c210 c211 c212 c213 c214 c215 c216 c217 c218 : Value}
    (hz : w.heap[z2]? = some (.cells #[.int .i64 xf, .int .i64 xr, .int .i64 xv, .int .i64 xe] 54 (0, 0))) (hg : (if xr = 0 then 4 else 0) = g) (hr : 0 ≤ xr) (he : (xe == 0) = (xr != 0))
    (hK : ∀ (u183 u184 u185 u186 u187 u188 u189 u190 u191 u192 u193 u194 u195 u196 u197 u198 u199 u200 u201 u202 u203 u204 u205 u206 u207 u208 u209 u210 u211 u212 u213 u214 u215 u216 : Value)  (w' : World), (w' = w) → Q .normal ⟨#[c0, c1, c2, c3, c4, c5, c6, c7, .int .i64 xf, .int .i64 xr, c10, c11, c12, c13, c14, .int .i64 xf, .int .i64 xr, .int .i64 g, .pointer (some ⟨z2, 0, none⟩), c19, c20, c21, c22, c23, c24, c25, c26, c27, c28, c29, c30, c31, c32, c33, c34, c35, c36, c37, c38, c39, c40, c41, c42, c43, c44, c45, c46, c47, c48, c49, c50, c51, c52, c53, c54, c55, c56, c57, c58, c59, c60, c61, c62, c63, c64, c65, c66, c67, c68, c69, c70, c71, c72, c73, c74, c75, c76, c77, c78, c79, c80, c81, c82, c83, c84, c85, c86, c87, c88, c89, c90, c91, c92, c93, c94, c95, c96, c97, c98, c99, c100, c101, c102, c103, c104, c105, c106, c107, c108, c109, c110, c111, c112, c113, c114, c115, c116, c117, c118, c119, c120, c121, c122, c123, c124, c125, c126, c127, c128, c129, c130, c131, c132, c133, c134, c135, c136, c137, c138, c139, c140, c141, c142, c143, c144, c145, c146, c147, c148, c149, c150, c151, c152, c153, c154, c155, c156, c157, c158, c159, c160, c161, c162, c163, c164, c165, c166, c167, c168, c169, c170, c171, c172, c173, c174, c175, c176, c177, c178, c179, c180, c181, c182, u183, u184, u185, u186, u187, u188, u189, u190, u191, u192, u193, u194, u195, u196, u197, u198, u199, u200, u201, u202, u203, u204, u205, u206, u207, u208, u209, u210, u211, u212, u213, u214, u215, u216, .bool false, c218], []⟩ w') :
    Code.wp Tryz.prog ((Tryz.f4.body.bind (pickR 29)).getD .skip) Q ⟨#[c0, c1, c2, c3, c4, c5, c6, c7, .int .i64 xf, .int .i64 xr, c10, c11, c12, c13, c14, .int .i64 xf, .int .i64 xr, .int .i64 g, .pointer (some ⟨z2, 0, none⟩), c19, c20, c21, c22, c23, c24, c25, c26, c27, c28, c29, c30, c31, c32, c33, c34, c35, c36, c37, c38, c39, c40, c41, c42, c43, c44, c45, c46, c47, c48, c49, c50, c51, c52, c53, c54, c55, c56, c57, c58, c59, c60, c61, c62, c63, c64, c65, c66, c67, c68, c69, c70, c71, c72, c73, c74, c75, c76, c77, c78, c79, c80, c81, c82, c83, c84, c85, c86, c87, c88, c89, c90, c91, c92, c93, c94, c95, c96, c97, c98, c99, c100, c101, c102, c103, c104, c105, c106, c107, c108, c109, c110, c111, c112, c113, c114, c115, c116, c117, c118, c119, c120, c121, c122, c123, c124, c125, c126, c127, c128, c129, c130, c131, c132, c133, c134, c135, c136, c137, c138, c139, c140, c141, c142, c143, c144, c145, c146, c147, c148, c149, c150, c151, c152, c153, c154, c155, c156, c157, c158, c159, c160, c161, c162, c163, c164, c165, c166, c167, c168, c169, c170, c171, c172, c173, c174, c175, c176, c177, c178, c179, c180, c181, c182, c183, c184, c185, c186, c187, c188, c189, c190, c191, c192, c193, c194, c195, c196, c197, c198, c199, c200, c201, c202, c203, c204, c205, c206, c207, c208, c209, c210, c211, c212, c213, c214, c215, c216, c217, c218], []⟩ w := by
  have HK : Hid (∀ (u183 u184 u185 u186 u187 u188 u189 u190 u191 u192 u193 u194 u195 u196 u197 u198 u199 u200 u201 u202 u203 u204 u205 u206 u207 u208 u209 u210 u211 u212 u213 u214 u215 u216 : Value)  (w' : World), (w' = w) → Q .normal ⟨#[c0, c1, c2, c3, c4, c5, c6, c7, .int .i64 xf, .int .i64 xr, c10, c11, c12, c13, c14, .int .i64 xf, .int .i64 xr, .int .i64 g, .pointer (some ⟨z2, 0, none⟩), c19, c20, c21, c22, c23, c24, c25, c26, c27, c28, c29, c30, c31, c32, c33, c34, c35, c36, c37, c38, c39, c40, c41, c42, c43, c44, c45, c46, c47, c48, c49, c50, c51, c52, c53, c54, c55, c56, c57, c58, c59, c60, c61, c62, c63, c64, c65, c66, c67, c68, c69, c70, c71, c72, c73, c74, c75, c76, c77, c78, c79, c80, c81, c82, c83, c84, c85, c86, c87, c88, c89, c90, c91, c92, c93, c94, c95, c96, c97, c98, c99, c100, c101, c102, c103, c104, c105, c106, c107, c108, c109, c110, c111, c112, c113, c114, c115, c116, c117, c118, c119, c120, c121, c122, c123, c124, c125, c126, c127, c128, c129, c130, c131, c132, c133, c134, c135, c136, c137, c138, c139, c140, c141, c142, c143, c144, c145, c146, c147, c148, c149, c150, c151, c152, c153, c154, c155, c156, c157, c158, c159, c160, c161, c162, c163, c164, c165, c166, c167, c168, c169, c170, c171, c172, c173, c174, c175, c176, c177, c178, c179, c180, c181, c182, u183, u184, u185, u186, u187, u188, u189, u190, u191, u192, u193, u194, u195, u196, u197, u198, u199, u200, u201, u202, u203, u204, u205, u206, u207, u208, u209, u210, u211, u212, u213, u214, u215, u216, .bool false, c218], []⟩ w') := hid hK
  clear hK
  conv => arg 2; whnf
  have x0 := P.cell_of (i := 0) hz rfl
  have x1 := P.cell_of (i := 1) hz rfl
  have x3 := P.cell_of (i := 3) hz rfl
  have t5 : (xf != xf) = false := by simp
  have t8 : (xr != xr) = false := by simp
  clear hz
  by_cases hq : xr = 0
  · obtain rfl : g = 4 := by rw [← hg, if_pos hq]
    have tg : decide (0 < xr) = false := decide_eq_false (by omega)
    have te : (xe == 0) = false := by rw [he, hq]; rfl
    clear he hq hg hr
    go_wp2
    exact HK.out _ _ _ _ _ _ _ _ _ _ _ _ _ _ _ _ _ _ _ _ _ _ _ _ _ _ _ _ _ _ _ _ _ _ _ rfl
  · obtain rfl : g = 0 := by rw [← hg, if_neg hq]
    have tg : decide (0 < xr) = true := decide_eq_true (by omega)
    have te : (xe == 0) = true := by rw [he]; simpa using hq
    clear he hq hg hr
    go_wp2
    exact HK.out _ _ _ _ _ _ _ _ _ _ _ _ _ _ _ _ _ _ _ _ _ _ _ _ _ _ _ _ _ _ _ _ _ _ _ rfl
end Go.Proofs.YtpfmmlbakbhklaaGreatDoor
