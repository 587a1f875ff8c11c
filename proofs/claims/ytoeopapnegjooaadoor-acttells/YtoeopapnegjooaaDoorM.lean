/- Texts and numbers, of no program: a number's digits are read as that number; a text of pieces without blanks is cut into just these; an act's text is read as that act. No conditions. -/
import Derived.Test.YtoeopapnegjooaaDoorK
namespace Go.Proofs.YtoeopapnegjooaaDoor

theorem parseM_snoc (M : Nat) (c : UInt8) : ∀ (l : List UInt8) (acc v : Nat), Lib.parseUintM M acc l = .ok v → Lib.parseUintM M acc (l ++ [c]) = Lib.parseUintM M v [c]
  | [], acc, v, h => by simp [Lib.parseUintM] at h; subst h; rfl
  | d :: l, acc, v, h => by
    simp only [List.cons_append]
    rw [Lib.parseUintM] at h ⊢
    split at h
    · rename_i hd
      rw [if_pos hd]
      split at h
      · cases h
      · rename_i h2
        rw [if_neg h2]
        split at h
        · cases h
        · rename_i h3
          rw [if_neg h3]
          exact parseM_snoc M c l _ v h
    · cases h
theorem digit_byte {d : Nat} (h : d < 10) : (UInt8.ofNat (48 + d)).toNat = 48 + d := by
  simp [UInt8.toNat_ofNat']; omega
theorem parse_digits : ∀ (n : Nat), n < 18446744073709551616 → Lib.parseUintM (2 ^ 64 - 1) 0 (Lib.decDigits n) = .ok n := by
  intro n
  induction n using Nat.strongRecOn with
  | ind n ih =>
    intro hn
    by_cases h : n < 10
    · rw [Lib.decDigits_one h]
      rw [Lib.parseUintM, digit_byte h, if_pos (by omega), if_neg (by omega), if_neg (by omega)]
      simp [Lib.parseUintM]
    · rw [Lib.decDigits, dif_neg h]
      rw [parseM_snoc _ _ _ _ (n / 10) (ih (n / 10) (by omega) (by omega))]
      have hd : n % 10 < 10 := Nat.mod_lt _ (by decide)
      rw [Lib.parseUintM, digit_byte hd, if_pos (by omega), if_neg (by omega), if_neg (by omega)]
      simp only [Lib.parseUintM]
      congr 1
      omega
theorem digits_ne (n : Nat) : Lib.decDigits n ≠ [] := by
  intro e
  have := Lib.decDigits_length n
  rw [e] at this
  have := Lib.nDigits_pos n
  simp at *
  omega
theorem pu_dg (n : Nat) (h : n < 18446744073709551616) : pu (dg n) = some n := by
  have e : Lib.parseUintB 64 (dg n).data.toList = .ok n := by
    show Lib.parseUintB 64 (Lib.decDigits n) = .ok n
    unfold Lib.parseUintB
    rw [if_neg (digits_ne n)]
    exact parse_digits n h
  unfold pu
  rw [e]

/-- No blank. -/
def NoB (l : List UInt8) : Prop := ∀ c ∈ l, c ≠ 32
theorem digits_noB (n : Nat) : NoB (Lib.decDigits n) := by
  induction n using Nat.strongRecOn with
  | ind n ih =>
    by_cases h : n < 10
    · rw [Lib.decDigits_one h]
      intro c hc
      rw [List.mem_singleton] at hc
      subst hc
      intro e
      have := congrArg UInt8.toNat e
      rw [digit_byte h] at this
      simp at this
      omega
    · rw [Lib.decDigits, dif_neg h]
      intro c hc
      rcases List.mem_append.1 hc with hc | hc
      · exact ih (n / 10) (by omega) c hc
      · rw [List.mem_singleton] at hc
        subst hc
        have hd : n % 10 < 10 := Nat.mod_lt _ (by decide)
        intro e
        have := congrArg UInt8.toNat e
        rw [digit_byte hd] at this
        simp at this
        omega
theorem idx_none : ∀ {l : List UInt8}, NoB l → Lib.indexByte l 32 = -1
  | [], _ => rfl
  | c :: l, h => by
    have hc : c ≠ 32 := h c (by simp)
    have := idx_none (l := l) (fun d hd => h d (by simp [hd]))
    unfold Lib.indexByte
    simp [hc, this]
theorem idx_at : ∀ {l : List UInt8} (r : List UInt8), NoB l → Lib.indexByte (l ++ 32 :: r) 32 = l.length
  | [], _, _ => by unfold Lib.indexByte; simp
  | c :: l, r, h => by
    have hc : c ≠ 32 := h c (by simp)
    have := idx_at (l := l) r (fun d hd => h d (by simp [hd]))
    simp only [List.cons_append]
    unfold Lib.indexByte
    simp [hc, this]
theorem splitK_none (k : Nat) {l : List UInt8} (h : NoB l) : Lib.splitK [32] 0 k l = [l] := by
  cases k with
  | zero => rfl
  | succ k =>
    unfold Lib.splitK
    rw [Lib.index_one, idx_none h]
    rfl
theorem splitK_at (k : Nat) {l : List UInt8} (r : List UInt8) (h : NoB l) : Lib.splitK [32] 0 (k + 1) (l ++ 32 :: r) = l :: Lib.splitK [32] 0 k r := by
  rw [Lib.splitK]
  rw [Lib.index_one, idx_at r h]
  rw [if_neg (by simp)]
  simp

theorem data_inj : ∀ {l m : List ByteArray}, l.map (fun x => x.data.toList) = m.map (fun x => x.data.toList) → l = m
  | [], [], _ => rfl
  | [], _ :: _, h => by simp at h
  | _ :: _, [], h => by simp at h
  | x :: l, y :: m, h => by
    simp only [List.map_cons, List.cons.injEq] at h
    rw [data_inj h.2, ByteArray.ext (Array.toList_inj.1 h.1)]
theorem pcs_data (s : ByteArray) (h : 4 ≤ s.size) : (pcs s).map (fun x => x.data.toList) = Lib.splitK [32] 0 4 s.data.toList := by
  unfold pcs
  have e : min 5 (s.size + 1) - 1 = 4 := by omega
  rw [e]
  exact Lib.splitB_data blank 0 4 s
theorem size_list (s : ByteArray) : s.size = s.data.toList.length := by rw [Array.length_toList]; rfl
theorem pcs_2 {s : ByteArray} {w d1 : List UInt8} (hw : NoB w) (h1 : NoB d1) (hs : s.data.toList = w ++ 32 :: d1) (hz : 4 ≤ s.size) : pcs s = [⟨w.toArray⟩, ⟨d1.toArray⟩] := by
  apply data_inj
  rw [pcs_data s hz, hs, splitK_at 3 _ hw, splitK_none 3 h1]
  rfl
theorem pcs_3 {s : ByteArray} {w d1 d2 : List UInt8} (hw : NoB w) (h1 : NoB d1) (h2 : NoB d2) (hs : s.data.toList = w ++ 32 :: (d1 ++ 32 :: d2)) (hz : 4 ≤ s.size) : pcs s = [⟨w.toArray⟩, ⟨d1.toArray⟩, ⟨d2.toArray⟩] := by
  apply data_inj
  rw [pcs_data s hz, hs, splitK_at 3 _ hw, splitK_at 2 _ h1, splitK_none 2 h2]
  rfl
theorem pcs_4 {s : ByteArray} {w d1 d2 d3 : List UInt8} (hw : NoB w) (h1 : NoB d1) (h2 : NoB d2) (h3 : NoB d3) (hs : s.data.toList = w ++ 32 :: (d1 ++ 32 :: (d2 ++ 32 :: d3))) (hz : 4 ≤ s.size) : pcs s = [⟨w.toArray⟩, ⟨d1.toArray⟩, ⟨d2.toArray⟩, ⟨d3.toArray⟩] := by
  apply data_inj
  rw [pcs_data s hz, hs, splitK_at 3 _ hw, splitK_at 2 _ h1, splitK_at 1 _ h2, splitK_none 1 h3]
  rfl

/-- What an act's text is made of. -/
inductive Shown : Ac → List UInt8 → Prop
  | load (n : Nat) (h : n ≤ 9223372036854775807) : Shown ⟨1, n, 0, 0⟩ (wLoad ++ 32 :: Lib.decDigits n)
  | store (n a : Nat) (h : n ≤ 9223372036854775807) (ha : a < 18446744073709551616) : Shown ⟨2, n, a, 0⟩ (wStore ++ 32 :: (Lib.decDigits n ++ 32 :: Lib.decDigits a))
  | cas (n a b : Nat) (h : n ≤ 9223372036854775807) (ha : a < 18446744073709551616) (hb : b < 18446744073709551616) : Shown ⟨3, n, a, b⟩ (wCas ++ 32 :: (Lib.decDigits n ++ 32 :: (Lib.decDigits a ++ 32 :: Lib.decDigits b)))
  | add (n a : Nat) (h : n ≤ 9223372036854775807) (ha : a < 18446744073709551616) : Shown ⟨4, n, a, 0⟩ (wAdd ++ 32 :: (Lib.decDigits n ++ 32 :: Lib.decDigits a))
theorem dg_list (n : Nat) : (dg n).data.toList = Lib.decDigits n := rfl
theorem shown_of {x : Ac} (ho : x.Ok) (hne : showB x ≠ ⟨#[]⟩) : Shown x (showB x).data.toList := by
  obtain ⟨kd, d, a, b⟩ := x
  obtain ⟨hd1, ha0, ha1, hb0, hb1⟩ := ho
  simp only [] at hd1 ha0 ha1 hb0 hb1
  unfold showB at hne ⊢
  simp only [] at hne ⊢
  by_cases hd : d < 0
  · simp [hd] at hne
  obtain ⟨n, rfl⟩ := Int.eq_ofNat_of_zero_le (show 0 ≤ d by omega)
  obtain ⟨m, rfl⟩ := Int.eq_ofNat_of_zero_le ha0
  obtain ⟨j, rfl⟩ := Int.eq_ofNat_of_zero_le hb0
  simp only [if_neg hd] at hne ⊢
  by_cases h1 : kd = 1
  · subst h1
    by_cases hz : ((m : Int) = 0 ∧ (j : Int) = 0)
    · obtain ⟨e1, e2⟩ := hz
      have e1' : m = 0 := by omega
      have e2' : j = 0 := by omega
      subst e1' e2'
      simp [ByteArray.data_append, dg_list]
      exact Shown.load n (by omega)
    · exfalso; simp at hne; omega
  · by_cases h2 : kd = 2
    · subst h2
      by_cases hz : (j : Int) = 0
      · have e2' : j = 0 := by omega
        subst e2'
        simp [ByteArray.data_append, dg_list]
        exact Shown.store n m (by omega) (by omega)
      · exfalso; simp at hne; omega
    · by_cases h3 : kd = 3
      · subst h3
        simp [ByteArray.data_append, dg_list]
        exact Shown.cas n m j (by omega) (by omega) (by omega)
      · by_cases h4 : kd = 4
        · subst h4
          by_cases hz : (j : Int) = 0
          · have e2' : j = 0 := by omega
            subst e2'
            simp [ByteArray.data_append, dg_list]
            exact Shown.add n m (by omega) (by omega)
          · exfalso; simp at hne; omega
        · simp [h1, h2, h3, h4] at hne

theorem noB_load : NoB wLoad := by unfold NoB; decide
theorem noB_store : NoB wStore := by unfold NoB; decide
theorem noB_cas : NoB wCas := by unfold NoB; decide
theorem noB_add : NoB wAdd := by unfold NoB; decide
theorem shown_read {x : Ac} {s : ByteArray} (h : Shown x s.data.toList) : readO (pcs s) = some x := by
  generalize hl : s.data.toList = l at h
  have hsz := size_list s
  rw [hl] at hsz
  cases h with
  | load n h =>
    rw [pcs_2 noB_load (digits_noB n) hl (by rw [hsz]; simp [wLoad])]
    have e : pu (⟨(Lib.decDigits n).toArray⟩ : ByteArray) = some n := pu_dg n (by omega)
    simp [readO, wLoad, e, rd1, h]
  | store n a h ha =>
    rw [pcs_3 noB_store (digits_noB n) (digits_noB a) hl (by rw [hsz]; simp [wStore])]
    have e : pu (⟨(Lib.decDigits n).toArray⟩ : ByteArray) = some n := pu_dg n (by omega)
    have e2 : pu (⟨(Lib.decDigits a).toArray⟩ : ByteArray) = some a := pu_dg a ha
    simp [readO, wStore, e, e2, rd2, h]
  | cas n a b h ha hb =>
    rw [pcs_4 noB_cas (digits_noB n) (digits_noB a) (digits_noB b) hl (by rw [hsz]; simp [wCas])]
    have e : pu (⟨(Lib.decDigits n).toArray⟩ : ByteArray) = some n := pu_dg n (by omega)
    have e2 : pu (⟨(Lib.decDigits a).toArray⟩ : ByteArray) = some a := pu_dg a ha
    have e3 : pu (⟨(Lib.decDigits b).toArray⟩ : ByteArray) = some b := pu_dg b hb
    simp [readO, wCas, e, e2, e3, rd3, h]
  | add n a h ha =>
    rw [pcs_3 noB_add (digits_noB n) (digits_noB a) hl (by rw [hsz]; simp [wAdd])]
    have e : pu (⟨(Lib.decDigits n).toArray⟩ : ByteArray) = some n := pu_dg n (by omega)
    have e2 : pu (⟨(Lib.decDigits a).toArray⟩ : ByteArray) = some a := pu_dg a ha
    simp [readO, wAdd, e, e2, rd2, h]

theorem parse_show {x : Ac} (ho : x.Ok) (hne : showB x ≠ ⟨#[]⟩) : parseO (showB x) = some x := by
  unfold parseO
  rw [shown_read (shown_of ho hne)]
  simp
theorem parse_empty : parseO ⟨#[]⟩ = none := by
  have e : pcs ⟨#[]⟩ = [⟨#[]⟩] := by decide +kernel
  unfold parseO
  rw [e]
  have : readO [⟨#[]⟩] = none := by unfold readO; decide +kernel
  rw [this]
theorem parse_text {s : ByteArray} {x : Ac} (h : parseO s = some x) : showB x = s := by
  unfold parseO at h
  split at h
  · split at h
    · rename_i e; cases h; exact e
    · cases h
  · cases h

theorem dg1 {n : Nat} (h : n < 10) : dg n = ⟨#[UInt8.ofNat (48 + n)]⟩ := by unfold dg; rw [Lib.decDigits_one h]
theorem show_k : showB ⟨3, 3, 1, 2⟩ = ⟨#[99, 97, 115, 32, 51, 32, 49, 32, 50]⟩ := by
  unfold showB
  simp only []
  rw [if_neg (by decide), if_neg (by decide), if_neg (by decide), if_pos trivial]
  rw [show (3 : Int).toNat = 3 from rfl, show (1 : Int).toNat = 1 from rfl, show (2 : Int).toNat = 2 from rfl, dg1 (by decide), dg1 (by decide), dg1 (by decide)]
  decide +kernel
theorem ok_k : (⟨3, 3, 1, 2⟩ : Ac).Ok := ⟨by decide, by decide, by decide, by decide, by decide⟩
theorem parse_k : parseO ⟨#[99, 97, 115, 32, 51, 32, 49, 32, 50]⟩ = some ⟨3, 3, 1, 2⟩ := by
  rw [← show_k]
  exact parse_show ok_k (by rw [show_k]; decide +kernel)
theorem parse_k2 : parseO ⟨#[99, 97, 115, 32, 51, 32, 48, 49, 32, 50]⟩ = none := by
  have e : pcs ⟨#[99, 97, 115, 32, 51, 32, 48, 49, 32, 50]⟩ = [⟨#[99, 97, 115]⟩, ⟨#[51]⟩, ⟨#[48, 49]⟩, ⟨#[50]⟩] := by decide +kernel
  have e1 : pu ⟨#[51]⟩ = some 3 := by decide +kernel
  have e2 : pu ⟨#[48, 49]⟩ = some 1 := by decide +kernel
  have e3 : pu ⟨#[50]⟩ = some 2 := by decide +kernel
  have r : readO [⟨#[99, 97, 115]⟩, ⟨#[51]⟩, ⟨#[48, 49]⟩, ⟨#[50]⟩] = some ⟨3, 3, 1, 2⟩ := by simp [readO, e1, e2, e3, rd3]
  unfold parseO
  rw [e, r]
  simp only []
  rw [if_neg (by rw [show_k]; decide +kernel)]
end Go.Proofs.YtoeopapnegjooaaDoor
