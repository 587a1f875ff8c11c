/- What the document's answer reads off a text: its pieces between blanks, and a piece's number. No conditions but that the text has at most 200 bytes. -/
import Derived.Test.YtoeopapnegjooaaDoorM
import Derived.Deep.AppendLies
import Derived.Deep.OwnRows
namespace Go.Proofs.YtoeopapnegjooaaDoor
open Go.RowKit

def stepN (n : Int) (c : UInt8) : Int := (10 * n + ((c.toNat : Int) - 48) % 256) % 18446744073709551616
def numL (l : List UInt8) : Int := l.foldl stepN 0
theorem numL_take (l : List UInt8) (k : Nat) (c : UInt8) (h : l[k]? = some c) : numL (l.take (k + 1)) = stepN (numL (l.take k)) c := by
  unfold numL
  rw [List.take_add_one, h, Option.toList_some, List.foldl_append]
  rfl
theorem stepN_range (n : Int) (c : UInt8) : 0 ≤ stepN n c ∧ stepN n c < 18446744073709551616 := by unfold stepN; omega
theorem numL_range (l : List UInt8) : 0 ≤ numL l ∧ numL l < 18446744073709551616 := by
  unfold numL
  rcases List.eq_nil_or_concat l with rfl | ⟨l', c, rfl⟩
  · decide
  · rw [List.concat_eq_append, List.foldl_append]
    exact stepN_range _ _
theorem numL_digits : ∀ (n : Nat), n < 18446744073709551616 → numL (Lib.decDigits n) = n := by
  intro n
  induction n using Nat.strongRecOn with
  | ind n ih =>
    intro hn
    by_cases h : n < 10
    · rw [Lib.decDigits_one h]
      show stepN 0 _ = _
      unfold stepN
      rw [digit_byte h]
      omega
    · rw [Lib.decDigits, dif_neg h]
      unfold numL
      rw [List.foldl_append]
      have := ih (n / 10) (by omega) (by omega)
      unfold numL at this
      rw [this]
      show stepN _ _ = _
      unfold stepN
      rw [digit_byte (Nat.mod_lt n (by decide))]
      omega
theorem byte_at (s : ByteArray) (k : Nat) (hk : k < s.size) (W : World) : (Instr.index 9 (.string s) (.int .i64 k)).run Tryd.prog W = .ok (.int .u8 (((s.data.toList[k]?).getD 0).toNat : Int)) W := by
  rw [run_index_string W 9 s .i64 k Tryd.underlying9, dif_pos (by omega)]
  have hk' : k < s.data.toList.length := by rw [← size_list]; exact hk
  rw [List.getElem?_eq_getElem hk']
  rfl

set_option maxRecDepth 100000 in
set_option maxHeartbeats 1000000 in
theorem number_at (s : ByteArray) (hs : s.size ≤ 1000) (w : World) : Calls Tryd.prog 35 #[.string s] w fun e w' => e = .returned (.int .u64 (numL s.data.toList)) ∧ w' = w := by
  have HB := Lib.hid (fun k (hk : k < s.size) => byte_at s k hk)
  have HL := Lib.hid (size_list s)
  have hN : numL s.data.toList = numL (s.data.toList.take s.size) := by rw [List.take_of_length_le (by rw [HL.out]; exact Nat.le_refl _)]
  rw [hN]
  clear hN
  go_enter Tryd.func35, Tryd.ntmps35
  go_wp2
  go_loopw [3, 4] (fun v i wr => ∃ k : Nat, k ≤ s.size ∧ v = .int .u64 (numL (s.data.toList.take k)) ∧ i = .int .i64 k ∧ wr = w) (fun _ i _ => s.size - (intOf i).toNat)
  case atStart => exact ⟨0, Nat.zero_le _, rfl, rfl, rfl⟩
  case round =>
    obtain ⟨k, hk, rfl, rfl, hwr⟩ := hrel
    have HW := Lib.hid hwr
    clear hwr
    by_cases hlt : k < s.size
    · have hb := HB.out k hlt
      obtain ⟨c, hc⟩ : ∃ c, s.data.toList[k]? = some c := ⟨_, List.getElem?_eq_getElem (by rw [← HL.out]; exact hlt)⟩
      rw [hc] at hb
      simp only [Option.getD_some] at hb
      have HC := Lib.hid (numL_take _ k c hc)
      clear hc
      obtain ⟨v, hv⟩ : ∃ v, numL (s.data.toList.take k) = v := ⟨_, rfl⟩
      rw [hv]
      rw [hv] at HC
      have HV := Lib.hid hv
      clear hv
      obtain ⟨cz, hcz⟩ : ∃ cz : Int, (c.toNat : Int) = cz := ⟨_, rfl⟩
      rw [hcz] at hb
      go_wp2
      refine ⟨⟨k + 1, by omega, ?_, by go_num, HW.out⟩, by simp [intOf]; omega⟩
      rw [HC.out]
      unfold stepN
      rw [hcz, IntKind.wrap_u64, IntKind.wrap_u64]
      congr 1
      omega
    · have e : k = s.size := by omega
      subst e
      go_wp2
      go_ret
      exact ⟨rfl, HW.out⟩

/-- A text's pieces between blanks; cur: the piece that has begun. -/
def spl (cur : List UInt8) : List UInt8 → List (List UInt8)
  | [] => [cur]
  | c :: r => if c = 32 then cur :: spl [] r else spl (cur ++ [c]) r
theorem spl_at (cur l : List UInt8) (k : Nat) (c : UInt8) (h : l[k]? = some c) : spl cur (l.drop k) = if c = 32 then cur :: spl [] (l.drop (k + 1)) else spl (cur ++ [c]) (l.drop (k + 1)) := by
  have hk : k < l.length := (List.getElem?_eq_some_iff.1 h).1
  have hc : l[k] = c := (List.getElem?_eq_some_iff.1 h).2
  rw [List.drop_eq_getElem_cons hk, hc]
  rfl
theorem piece_snoc (l : List UInt8) (f k : Nat) (c : UInt8) (hf : f ≤ k) (h : l[k]? = some c) : (l.take k).drop f ++ [c] = (l.take (k + 1)).drop f := by
  have hk : k < l.length := (List.getElem?_eq_some_iff.1 h).1
  rw [List.take_add_one, h, Option.toList_some, List.drop_append]
  have : f - (l.take k).length = 0 := by simp; omega
  rw [this]
  rfl
theorem extract_list (s : ByteArray) (f k : Nat) : (s.extract f k).data.toList = (s.data.toList.take k).drop f := by
  rw [Lib.extract_data]
  simp [List.drop_take]
theorem run_cut (s : ByteArray) (f k : Nat) (hf : f ≤ k) (hk : k ≤ s.size) (W : World) : (Instr.slice 9 (.string s) (some (.int .i64 f)) (some (.int .i64 k)) none).run Tryd.prog W = .ok (.string (s.extract f k)) W := by
  rw [run_slice_string_if W 9 s .i64 .i64 f k Tryd.underlying9, if_pos (by omega), if_pos (by omega)]
  simp
theorem owns_below {w w' : World} {base size n : Nat} {e : TypeId} {v : Value} {xs : List Value} (h : w.ownsRow base e size v n xs) (k : Below w.heap.size w w') : w'.ownsRow base e size v n xs := by
  refine ⟨h.1, ?_⟩
  rcases h.2 with h | ⟨g, cap, cur, h1, h2, h3, h4⟩
  · exact Or.inl h
  · exact Or.inr ⟨g, cap, cur, h1, h2, (k.block _ (lt_of_block h3)).trans h3, h4⟩
theorem info9' : ∃ i, Tryd.prog.info? 9 = some i ∧ i.zero = some (.string ByteArray.empty) ∧ i.size = 1 ∧ i.bytes = 16 := by
  obtain ⟨i, hi, hzz⟩ := Option.map_eq_some_iff.1 info9
  simp only [Prod.mk.injEq] at hzz
  exact ⟨i, hi, hzz.1, hzz.2.1, hzz.2.2⟩

/-- What stands while a text is cut. -/
structure Wo (w wr : World) (s : ByteArray) (ov : Value) (f i : Nat) (D : List ByteArray) : Prop where
  own : wr.ownsRow w.heap.size 9 1 ov D.length (D.map Value.string)
  bel : Below w.heap.size w wr
  fi : f ≤ i
  le : i ≤ s.size + 1
  dl : D.length ≤ i
  sp : i ≤ s.size → D.map (fun x => x.data.toList) ++ spl ((s.data.toList.take i).drop f) (s.data.toList.drop i) = spl [] s.data.toList
  en : i = s.size + 1 → D.map (fun x => x.data.toList) = spl [] s.data.toList

set_option maxRecDepth 100000 in
set_option maxHeartbeats 1000000 in
theorem words_at (s : ByteArray) (hs : s.size ≤ 200) (w : World) : Calls Tryd.prog 34 #[.string s] w fun e w' => ∃ (v : Value) (D : List ByteArray), e = .returned v ∧ w'.ownsRow w.heap.size 9 1 v D.length (D.map Value.string) ∧ D.map (fun x => x.data.toList) = spl [] s.data.toList ∧ Below w.heap.size w w' := by
  have HB := Lib.hid (fun k (hk : k < s.size) => byte_at s k hk)
  have HC := Lib.hid (fun f k hf hk => run_cut s f k hf hk)
  have HL := Lib.hid (size_list s)
  obtain ⟨i9, hi, hz0, hz1, hz2⟩ := info9'
  have hzz : (Value.string ByteArray.empty).cells.size = 1 := rfl
  go_enter Tryd.func34, Tryd.ntmps34
  go_wp2
  go_loopw [3, 4, 5] (fun ov fv iv wr => ∃ (f i : Nat) (D : List ByteArray), fv = .int .i64 f ∧ iv = .int .i64 i ∧ Wo w wr s ov f i D) (fun _ _ i _ => s.size + 1 - (intOf i).toNat)
  case atStart => exact ⟨0, 0, [], rfl, rfl, World.ownsRow_nil _ _ _ _, Below.refl _ _, Nat.le_refl _, by omega, Nat.le_refl _, fun _ => by simp, fun h => absurd h (by omega)⟩
  case round =>
    obtain ⟨f, i, D, rfl, rfl, hW⟩ := hrel
    have HW := Lib.hid hW
    have hfi := hW.fi
    have hle := hW.le
    have hdl := hW.dl
    clear hW
    by_cases hend : i = s.size + 1
    · have hd : decide ((i : Int) ≤ s.size) = false := by simp; omega
      go_wp2
      go_ret
      exact ⟨_, D, rfl, HW.out.own, HW.out.en hend, HW.out.bel⟩
    · have hd : decide ((i : Int) ≤ s.size) = true := by simp; omega
      have hcut := HC.out f i hfi (by omega)
      by_cases hlast : i = s.size
      · subst hlast
        have hq : ((s.size : Int) == s.size) = true := by simp
        go_wp2_with (at_builtin; (refine wpList_append_own _ rfl _ _ 70 rfl w.heap.size 9 i9 (.string ByteArray.empty) 1 16 Tryd.underlying70 hi hz0 hz1 hz2 hzz (by decide) _ D.length (D.map Value.string) rfl ?o0 ⟨wr.heap.size, 0, none⟩ 1 1 [.string (s.extract f s.size)] rfl ?c0 ?c1 ?c2 ?c3 ?c4 ?c5 ?_))
        case o0 => exact owns_below HW.out.own (below_alloc _ _)
        case c0 => rfl
        case c1 =>
          intro j u hu
          match j, hu with
          | 0, hu =>
            simp at hu
            subst hu
            rw [Lib.add_plain]
            exact cell_of (heap_alloc_new _ _) rfl
        case c2 =>
          intro u hu
          simp at hu
          subst hu
          rfl
        case c3 => unfold maxLen; omega
        case c4 => omega
        case c5 => have := HW.out.bel.size; simp; omega
        intro v' w1 hown hgrow _
        have HB1 : Hid (Below w.heap.size w w1) := Lib.hid ((zkeep HW.out.bel _).grown hgrow (by have := HW.out.bel.size; simp; omega) (fun k e => (HW.out.own.lt k e).1))
        have HO := Lib.hid hown
        clear hown hgrow
        go_wp2
        refine ⟨⟨s.size + 1, s.size + 1, D ++ [s.extract f s.size], by go_num, by go_num, ?_⟩, by simp [intOf]⟩
        refine ⟨by simpa using HO.out, HB1.out, Nat.le_refl _, Nat.le_refl _, by simp; omega, fun h => absurd h (by omega), fun _ => ?_⟩
        have := HW.out.sp (Nat.le_refl _)
        rw [← this, List.map_append]
        congr 1
        have e : s.data.toList.drop s.size = [] := List.drop_eq_nil_of_le (by rw [HL.out]; exact Nat.le_refl _)
        rw [e]
        show [(s.extract f s.size).data.toList] = [_]
        rw [extract_list]
      · have hlt : i < s.size := by omega
        have hq : ((i : Int) == s.size) = false := by simp; omega
        have hb := HB.out i hlt
        obtain ⟨ch, hch⟩ : ∃ ch, s.data.toList[i]? = some ch := ⟨_, List.getElem?_eq_getElem (by rw [← HL.out]; exact hlt)⟩
        rw [hch] at hb
        simp only [Option.getD_some] at hb
        have HCH := Lib.hid hch
        clear hch
        by_cases h32 : ch = 32
        · subst h32
          replace hb : ∀ W, (Instr.index 9 (.string s) (.int .i64 i)).run Tryd.prog W = .ok (.int .u8 32) W := hb
          go_wp2_with (at_builtin; (refine wpList_append_own _ rfl _ _ 70 rfl w.heap.size 9 i9 (.string ByteArray.empty) 1 16 Tryd.underlying70 hi hz0 hz1 hz2 hzz (by decide) _ D.length (D.map Value.string) rfl ?o0 ⟨wr.heap.size, 0, none⟩ 1 1 [.string (s.extract f i)] rfl ?c0 ?c1 ?c2 ?c3 ?c4 ?c5 ?_))
          case o0 => exact owns_below HW.out.own (below_alloc _ _)
          case c0 => rfl
          case c1 =>
            intro j u hu
            match j, hu with
            | 0, hu =>
              simp at hu
              subst hu
              rw [Lib.add_plain]
              exact cell_of (heap_alloc_new _ _) rfl
          case c2 =>
            intro u hu
            simp at hu
            subst hu
            rfl
          case c3 => unfold maxLen; omega
          case c4 => omega
          case c5 => have := HW.out.bel.size; simp; omega
          intro v' w1 hown hgrow _
          have HB1 : Hid (Below w.heap.size w w1) := Lib.hid ((zkeep HW.out.bel _).grown hgrow (by have := HW.out.bel.size; simp; omega) (fun k e => (HW.out.own.lt k e).1))
          have HO := Lib.hid hown
          clear hown hgrow
          go_wp2
          refine ⟨⟨i + 1, i + 1, D ++ [s.extract f i], by go_num, by go_num, ?_⟩, by simp [intOf]; omega⟩
          refine ⟨by simpa using HO.out, HB1.out, Nat.le_refl _, by omega, by simp; omega, fun _ => ?_, fun h => absurd h (by omega)⟩
          have := HW.out.sp (by omega)
          rw [spl_at _ _ i 32 HCH.out, if_pos rfl] at this
          rw [← this, List.map_append]
          have e : (s.data.toList.take (i + 1)).drop (i + 1) = [] := List.drop_eq_nil_of_le (by simp; omega)
          rw [e]
          simp [List.drop_take]
        · have hne : ((ch.toNat : Int) == 32) = false := by
            rw [beq_eq_false_iff_ne]
            intro e
            apply h32
            apply UInt8.toNat_inj.1
            have e' : ch.toNat = 32 := by omega
            rw [e']; rfl
          obtain ⟨cz, hcz⟩ : ∃ cz : Int, (ch.toNat : Int) = cz := ⟨_, rfl⟩
          rw [hcz] at hb hne
          clear hcz
          go_wp2
          refine ⟨⟨f, i + 1, D, rfl, by go_num, ?_⟩, by simp [intOf]; omega⟩
          refine ⟨HW.out.own, HW.out.bel, by omega, by omega, by omega, fun _ => ?_, fun h => absurd h (by omega)⟩
          have := HW.out.sp (by omega)
          rw [spl_at _ _ i ch HCH.out, if_neg h32, piece_snoc _ f i ch hfi HCH.out] at this
          exact this
end Go.Proofs.YtoeopapnegjooaaDoor
