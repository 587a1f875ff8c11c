/- The walk of MemPlays: it returns true for every number of words, every script and every place; nothing that lay before is changed. -/
import Derived.Test.YtkfmfnjkaeajeaaV1
import Derived.Test.YtkfmfnjkaeajeaaV2
import Derived.Deep.CutRange
namespace Go.Proofs.Ytkfmfnjkaeajeaa
open Go.RowKit

set_option maxRecDepth 100000 in
set_option maxHeartbeats 1000000 in
theorem plays_mid (n : Int) (q : Option Addr) (m c : Nat) (at_ : Int) (w0 : World) (h1 : 5000 < n) (h2 : n ≤ 65536) :
    Calls Try.prog 3 #[.int .i64 n, .slice q m c, .int .i64 at_] w0 fun e w' => e = .returned (.bool true) ∧ Below w0.heap.size w0 w' := by
  go_enter Try.func3, Try.ntmps3
  go_wp2_with fail
  refine (known_yes _).mono ?_
  rintro e w' ⟨rfl, hw'⟩
  go_wp2
  go_ret
  exact ⟨rfl, hw'⟩

set_option maxRecDepth 100000 in
set_option maxHeartbeats 1000000 in
theorem plays_no (n : Int) (q : Option Addr) (m c : Nat) (at_ : Int) (w0 : World) (h : n < 1 ∨ 65536 < n) :
    Calls Try.prog 3 #[.int .i64 n, .slice q m c, .int .i64 at_] w0 fun e w' => e = .returned (.bool true) ∧ Below w0.heap.size w0 w' := by
  have HN : Hid (n < 1 ∨ 65536 < n) := h
  have t : (decide (5000 < n) && decide (n ≤ 65536)) = false := by
    rcases h with h | h
    · simp; omega
    · simp; omega
  rcases h with h | h
  all_goals
    go_enter Try.func3, Try.ntmps3
    go_wp2_with fail
    refine (new_no _ _ HN.out).mono ?_
    rintro e w' ⟨rfl, hw'⟩; rw [hw']; clear hw' w'
    go_wp2_with fail
    refine (rnew_no _ _ HN.out).mono ?_
    rintro e w1 ⟨rfl, hB⟩
    go_wp2
    refine wp_loop_rounds 1 ?_
    rw [rounds_succ]
    go_wp2_with fail
    all_goals
      refine (known_yes _).mono ?_
      rintro e w' ⟨rfl, hw'⟩
      go_wp2
      go_ret
      exact ⟨rfl, hB.trans (hw'.mono hB.size)⟩

set_option maxRecDepth 100000 in
set_option maxHeartbeats 8000000 in
theorem plays_yes (n : Nat) (q : Option Addr) (m c : Nat) (l : List Cl) (at_ : Int) (w0 : World) (hm : m ≤ maxLen) (hl : l.length = m) (hS : Script w0 q l) (hn1 : 1 ≤ n) (hn2 : n ≤ 5000) :
    Calls Try.prog 3 #[.int .i64 n, .slice q m c, .int .i64 at_] w0 fun e w' => e = .returned (.bool true) ∧ Below w0.heap.size w0 w' := by
  unfold maxLen at hm
  have HL : Hid (l.length = m) := hl
  have HS : Hid (Script w0 q l) := hS
  clear hl hS
  go_enter Try.func3, Try.ntmps3
  go_wp2_with fail
  refine (Kn.new w0 _ n (Below.refl _ _) hn1 (by omega)).mono ?_
  rintro e w1 ⟨pp, bb, rfl, K, -, -, -⟩
  go_wp2_with fail
  refine (rnew_yes n _ hn1 (by omega)).mono ?_
  rintro e w2 ⟨rfl, hM, hB⟩
  have T : Two 46 w0 w2 pp bb ⟨List.replicate n 0, 0, 0⟩ (w1.heap.size + 1) w1.heap.size ⟨List.replicate n 0, 0, 0⟩ := Two.mk' K hM (by omega) (by omega) hB
  clear K hM hB
  obtain ⟨b', hb'⟩ : ∃ b', w1.heap.size = b' := ⟨_, rfl⟩
  rw [hb'] at T ⊢
  obtain ⟨p', hp'⟩ : ∃ p', b' + 1 = p' := ⟨_, rfl⟩
  rw [hp'] at T ⊢
  clear hp' hb'
  go_wp2
  go_loopw [7, 11] (fun mv i wr => ∃ (j : Nat) (s : St) (p b : Nat), j ≤ m ∧ j ≤ 80 ∧ i = .int .i64 j ∧ mv = .pointer (some ⟨p, 0, none⟩) ∧ Hid (s.xs.length = n ∧ Cnt s j) ∧ Two 46 w0 wr p b s p' b' s) (fun _ i _ => 80 - (intOf i).toNat)
  case atStart => exact ⟨0, _, pp, bb, Nat.zero_le _, Nat.zero_le _, rfl, rfl, ⟨by simp, ⟨Int.le_refl 0, Int.le_refl 0, Int.le_refl 0, Int.le_refl 0⟩⟩, T⟩
  case round =>
    clear T
    obtain ⟨j, s, p, b, hj, hj', rfl, rfl, HP, T⟩ := hrel
    have HJ : Hid (j ≤ bnd ∧ j + 1 ≤ bnd) := by show _ ∧ _; unfold bnd; omega
    by_cases hlt : j < m ∧ j < 80
    · obtain ⟨hlt, hlt'⟩ := hlt
      obtain ⟨sb, off, rfl, hsb, hcell⟩ := HS.out (by have := HL.out; intro e; rw [e] at this; simp at this; omega)
      obtain ⟨o0, o1, o2, o3⟩ := hcell j (by rw [HL.out]; exact hlt)
      clear HS HL hcell
      generalize l.getD j noCl = o at o0 o1 o2 o3
      obtain ⟨kd, ad, oa, ob⟩ := o
      simp only at o0 o1 o2 o3
      have c0 := (T.bel.cell (p := ⟨sb, off + j * 4, none⟩) hsb).trans o0
      have c1 := (T.bel.cell (p := ⟨sb, off + j * 4 + 1, none⟩) hsb).trans o1
      have c2 := (T.bel.cell (p := ⟨sb, off + j * 4 + 2, none⟩) hsb).trans o2
      have c3 := (T.bel.cell (p := ⟨sb, off + j * 4 + 3, none⟩) hsb).trans o3
      have TO := T.to kd ad oa ob
      clear o0 o1 o2 o3 hsb T
      obtain ⟨g, hg⟩ : ∃ g, wr.heap.size = g := ⟨_, rfl⟩
      obtain ⟨W, hW⟩ : ∃ W, wr.alloc (.cells #[.int .i64 kd, .int .i64 ad, .int .u64 oa, .int .u64 ob] 33) = W := ⟨_, rfl⟩
      rw [hW, hg] at TO
      have HW : Hid (wr.alloc (.cells #[.int .i64 kd, .int .i64 ad, .int .u64 oa, .int .u64 ob] 33) = W ∧ wr.heap.size = g) := ⟨hW, hg⟩
      clear hW hg
      go_upto_region 11 with fail
      rw [HW.out.1, HW.out.2]
      clear HW c0 c1 c2 c3
      obtain ⟨d0, d1, d2, d3⟩ := TO.o.cells
      go_cut [75] from 56 to 239 (fun v w => v = .int .i64 kd ∧ w = W)
      case first =>
        go_wp2
        go_meet
        case rel => exact ⟨rfl, rfl⟩
      case rest =>
        obtain ⟨rfl, rfl⟩ := hcut
        refine ‹∀ (a : Act) (w : World), Code.wp Try.prog (Code.block 2 _) _ a w → _› _ _ ?_
        clear d0 d1 d2 d3
        by_cases h1 : kd = 1
        · subst h1
          refine plays_k1 HP.out HJ.out.1 TO ?_
          intro u13 u14 u15 u16 u17 u18 u19 u20 u21 u22 u23 u24 u25 u76 u77 u78 u79 u80 u81 u82 u83 u84 u85 u86 u87 u88 u89 u90 u91 u92 u93 u94 u95 u96 u97 u98 u99 u100 u101 u102 u103 u104 u105 u106 u107 u108 u109 u110 u111 u112 u113 u114 u115 u116 u117 u118 u119 u120 u121 u122 u123 u124 u125 u126 u127 u128 u129 u130 u131 u132 u133 u134 u135 u136 u137 u138 u139 u140 u141 u142 u143 u144 u145 u146 u147 u148 u149 u150 u151 u152 u153 u154 u155 u156 u157 u158 u159 u160 u161 u162 u163 u164 u165 u166 u167 u168 u169 u170 u171 u172 u173 u174 u175 u176 u177 u178 u179 u180 u181 u182 u183 w3 s' p2 b2 hQ T
          refine ‹∀ (a : Act) (w : World), Code.wp Try.prog (Code.seq (Code.region 35 _ _) _) _ a w → _› _ _ ?_
          refine plays_tail hn1 hn2 hQ.1 T ?_
          intro u26 u27 u28 u184 u185 u186 u187 u188 u189 u190 u191 u192 u193 u194 u195 u196 u197 u198 u199 u200 u201 u202 u203 u204 u205 u206 u207 u208 u209 u210 u211 u212 u213 u214 u215 u216 u217 u218 u219 u220 u221 u222 u223 u224 u225 u226 u227 u228 u229 u230 u231 u232 u233 u234 u235 u236 u237 u238 u239 w4 T4
          have HQ : Hid (s'.xs.length = n ∧ Cnt s' (j + 1)) := hQ
          clear hQ T TO
          go_wp2
          exact ⟨⟨j + 1, s', p2, b2, by omega, by omega, by go_num, rfl, HQ, T4⟩, by simp [intOf]; omega⟩
        · by_cases h2 : kd = 2
          · subst h2
            refine plays_k2 HP.out HJ.out.1 TO ?_
            intro u13 u14 u15 u16 u17 u18 u19 u20 u21 u22 u23 u24 u25 u76 u77 u78 u79 u80 u81 u82 u83 u84 u85 u86 u87 u88 u89 u90 u91 u92 u93 u94 u95 u96 u97 u98 u99 u100 u101 u102 u103 u104 u105 u106 u107 u108 u109 u110 u111 u112 u113 u114 u115 u116 u117 u118 u119 u120 u121 u122 u123 u124 u125 u126 u127 u128 u129 u130 u131 u132 u133 u134 u135 u136 u137 u138 u139 u140 u141 u142 u143 u144 u145 u146 u147 u148 u149 u150 u151 u152 u153 u154 u155 u156 u157 u158 u159 u160 u161 u162 u163 u164 u165 u166 u167 u168 u169 u170 u171 u172 u173 u174 u175 u176 u177 u178 u179 u180 u181 u182 u183 w3 s' p2 b2 hQ T
            refine ‹∀ (a : Act) (w : World), Code.wp Try.prog (Code.seq (Code.region 35 _ _) _) _ a w → _› _ _ ?_
            refine plays_tail hn1 hn2 hQ.1 T ?_
            intro u26 u27 u28 u184 u185 u186 u187 u188 u189 u190 u191 u192 u193 u194 u195 u196 u197 u198 u199 u200 u201 u202 u203 u204 u205 u206 u207 u208 u209 u210 u211 u212 u213 u214 u215 u216 u217 u218 u219 u220 u221 u222 u223 u224 u225 u226 u227 u228 u229 u230 u231 u232 u233 u234 u235 u236 u237 u238 u239 w4 T4
            have HQ : Hid (s'.xs.length = n ∧ Cnt s' (j + 1)) := hQ
            clear hQ T TO
            go_wp2
            exact ⟨⟨j + 1, s', p2, b2, by omega, by omega, by go_num, rfl, HQ, T4⟩, by simp [intOf]; omega⟩
          · by_cases h3 : kd = 3
            · subst h3
              refine plays_k3 HP.out HJ.out.1 TO ?_
              intro u13 u14 u15 u16 u17 u18 u19 u20 u21 u22 u23 u24 u25 u76 u77 u78 u79 u80 u81 u82 u83 u84 u85 u86 u87 u88 u89 u90 u91 u92 u93 u94 u95 u96 u97 u98 u99 u100 u101 u102 u103 u104 u105 u106 u107 u108 u109 u110 u111 u112 u113 u114 u115 u116 u117 u118 u119 u120 u121 u122 u123 u124 u125 u126 u127 u128 u129 u130 u131 u132 u133 u134 u135 u136 u137 u138 u139 u140 u141 u142 u143 u144 u145 u146 u147 u148 u149 u150 u151 u152 u153 u154 u155 u156 u157 u158 u159 u160 u161 u162 u163 u164 u165 u166 u167 u168 u169 u170 u171 u172 u173 u174 u175 u176 u177 u178 u179 u180 u181 u182 u183 w3 s' p2 b2 hQ T
              refine ‹∀ (a : Act) (w : World), Code.wp Try.prog (Code.seq (Code.region 35 _ _) _) _ a w → _› _ _ ?_
              refine plays_tail hn1 hn2 hQ.1 T ?_
              intro u26 u27 u28 u184 u185 u186 u187 u188 u189 u190 u191 u192 u193 u194 u195 u196 u197 u198 u199 u200 u201 u202 u203 u204 u205 u206 u207 u208 u209 u210 u211 u212 u213 u214 u215 u216 u217 u218 u219 u220 u221 u222 u223 u224 u225 u226 u227 u228 u229 u230 u231 u232 u233 u234 u235 u236 u237 u238 u239 w4 T4
              have HQ : Hid (s'.xs.length = n ∧ Cnt s' (j + 1)) := hQ
              clear hQ T TO
              go_wp2
              exact ⟨⟨j + 1, s', p2, b2, by omega, by omega, by go_num, rfl, HQ, T4⟩, by simp [intOf]; omega⟩
            · by_cases h4 : kd = 4
              · subst h4
                refine plays_k4 HP.out HJ.out.1 TO ?_
                intro u13 u14 u15 u16 u17 u18 u19 u20 u21 u22 u23 u24 u25 u76 u77 u78 u79 u80 u81 u82 u83 u84 u85 u86 u87 u88 u89 u90 u91 u92 u93 u94 u95 u96 u97 u98 u99 u100 u101 u102 u103 u104 u105 u106 u107 u108 u109 u110 u111 u112 u113 u114 u115 u116 u117 u118 u119 u120 u121 u122 u123 u124 u125 u126 u127 u128 u129 u130 u131 u132 u133 u134 u135 u136 u137 u138 u139 u140 u141 u142 u143 u144 u145 u146 u147 u148 u149 u150 u151 u152 u153 u154 u155 u156 u157 u158 u159 u160 u161 u162 u163 u164 u165 u166 u167 u168 u169 u170 u171 u172 u173 u174 u175 u176 u177 u178 u179 u180 u181 u182 u183 w3 s' p2 b2 hQ T
                refine ‹∀ (a : Act) (w : World), Code.wp Try.prog (Code.seq (Code.region 35 _ _) _) _ a w → _› _ _ ?_
                refine plays_tail hn1 hn2 hQ.1 T ?_
                intro u26 u27 u28 u184 u185 u186 u187 u188 u189 u190 u191 u192 u193 u194 u195 u196 u197 u198 u199 u200 u201 u202 u203 u204 u205 u206 u207 u208 u209 u210 u211 u212 u213 u214 u215 u216 u217 u218 u219 u220 u221 u222 u223 u224 u225 u226 u227 u228 u229 u230 u231 u232 u233 u234 u235 u236 u237 u238 u239 w4 T4
                have HQ : Hid (s'.xs.length = n ∧ Cnt s' (j + 1)) := hQ
                clear hQ T TO
                go_wp2
                exact ⟨⟨j + 1, s', p2, b2, by omega, by omega, by go_num, rfl, HQ, T4⟩, by simp [intOf]; omega⟩
              · have k1 : (kd == 1) = false := by simpa using h1
                have k2 : (kd == 2) = false := by simpa using h2
                have k3 : (kd == 3) = false := by simpa using h3
                have k4 : (kd == 4) = false := by simpa using h4
                refine plays_k5 k1 k2 k3 k4 HP.out HJ.out.1 TO ?_
                intro u13 u14 u15 u16 u17 u18 u19 u20 u21 u22 u23 u24 u25 u76 u77 u78 u79 u80 u81 u82 u83 u84 u85 u86 u87 u88 u89 u90 u91 u92 u93 u94 u95 u96 u97 u98 u99 u100 u101 u102 u103 u104 u105 u106 u107 u108 u109 u110 u111 u112 u113 u114 u115 u116 u117 u118 u119 u120 u121 u122 u123 u124 u125 u126 u127 u128 u129 u130 u131 u132 u133 u134 u135 u136 u137 u138 u139 u140 u141 u142 u143 u144 u145 u146 u147 u148 u149 u150 u151 u152 u153 u154 u155 u156 u157 u158 u159 u160 u161 u162 u163 u164 u165 u166 u167 u168 u169 u170 u171 u172 u173 u174 u175 u176 u177 u178 u179 u180 u181 u182 u183 w3 s' p2 b2 hQ T
                refine ‹∀ (a : Act) (w : World), Code.wp Try.prog (Code.seq (Code.region 35 _ _) _) _ a w → _› _ _ ?_
                refine plays_tail hn1 hn2 hQ.1 T ?_
                intro u26 u27 u28 u184 u185 u186 u187 u188 u189 u190 u191 u192 u193 u194 u195 u196 u197 u198 u199 u200 u201 u202 u203 u204 u205 u206 u207 u208 u209 u210 u211 u212 u213 u214 u215 u216 u217 u218 u219 u220 u221 u222 u223 u224 u225 u226 u227 u228 u229 u230 u231 u232 u233 u234 u235 u236 u237 u238 u239 w4 T4
                have HQ : Hid (s'.xs.length = n ∧ Cnt s' (j + 1)) := hQ
                clear hQ T TO
                go_wp2
                exact ⟨⟨j + 1, s', p2, b2, by omega, by omega, by go_num, rfl, HQ, T4⟩, by simp [intOf]; omega⟩
    · have hd : j = m ∨ (j < m ∧ j = 80) := by omega
      rcases hd with rfl | ⟨hjn, rfl⟩
      all_goals
        go_wp2_with fail
        refine (known_yes _).mono ?_
        rintro e w' ⟨rfl, hw'⟩
        go_wp2
        go_ret
        exact ⟨rfl, T.bel.trans (hw'.mono T.bel.size)⟩

theorem plays_walk (n : Int) (q : Option Addr) (m c : Nat) (l : List Cl) (at_ : Int) (w0 : World) (hm : m ≤ maxLen) (hl : l.length = m) (hS : Script w0 q l) :
    Calls Try.prog 3 #[.int .i64 n, .slice q m c, .int .i64 at_] w0 fun e w' => e = .returned (.bool true) ∧ Below w0.heap.size w0 w' := by
  by_cases h : n < 1 ∨ 65536 < n
  · exact plays_no n q m c at_ w0 h
  · by_cases h5 : 5000 < n
    · exact plays_mid n q m c at_ w0 h5 (by omega)
    · obtain ⟨k, rfl⟩ := Int.eq_ofNat_of_zero_le (show 0 ≤ n by omega)
      exact plays_yes k q m c l at_ w0 hm hl hS (by omega) (by omega)
end Go.Proofs.Ytkfmfnjkaeajeaa
