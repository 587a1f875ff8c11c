/- What the document's answer reads off a text is what package act reads off it. Condition: the text has at most 200 bytes. -/
import Derived.Test.YtoeopapnegjooaaDoorR5
namespace Go.Proofs.YtoeopapnegjooaaDoor
open Go.RowKit

theorem spl_noB : ∀ (l cur : List UInt8), NoB l → spl cur l = [cur ++ l]
  | [], cur, _ => by simp [spl]
  | c :: l, cur, h => by
    unfold spl
    rw [if_neg (h c (by simp)), spl_noB l (cur ++ [c]) (fun d hd => h d (by simp [hd]))]
    simp
theorem spl_blank : ∀ (l cur r : List UInt8), NoB l → spl cur (l ++ 32 :: r) = (cur ++ l) :: spl [] r
  | [], cur, r, _ => by simp [spl]
  | c :: l, cur, r, h => by
    simp only [List.cons_append]
    rw [spl, if_neg (h c (by simp)), spl_blank l (cur ++ [c]) r (fun d hd => h d (by simp [hd]))]
    simp
/-- The act that pieces are read as. -/
def refAc : List ByteArray → Ac
  | [p, q1] => ⟨kUp p 5, IntKind.i64.wrap (numL q1.data.toList), 0, 0⟩
  | [p, q1, q2] => ⟨kUp p 5, IntKind.i64.wrap (numL q1.data.toList), numL q2.data.toList, 0⟩
  | [p, q1, q2, q3] => ⟨kUp p 5, IntKind.i64.wrap (numL q1.data.toList), numL q2.data.toList, numL q3.data.toList⟩
  | _ => ⟨0, 0, 0, 0⟩
theorem kUp_load : kUp ⟨wLoad.toArray⟩ 5 = 1 := by decide +kernel
theorem kUp_store : kUp ⟨wStore.toArray⟩ 5 = 2 := by decide +kernel
theorem kUp_cas : kUp ⟨wCas.toArray⟩ 5 = 3 := by decide +kernel
theorem kUp_add : kUp ⟨wAdd.toArray⟩ 5 = 4 := by decide +kernel
theorem wrap_small {n : Nat} (h : n ≤ 9223372036854775807) : IntKind.i64.wrap (n : Int) = n := by rw [IntKind.wrap_i64]; omega
theorem pieces_of {D : List ByteArray} {l : List (List UInt8)} (h : D.map (fun x => x.data.toList) = l) : D = l.map (fun x => ⟨x.toArray⟩) := by
  apply data_inj
  rw [h, List.map_map]
  have : ((fun x : ByteArray => x.data.toList) ∘ fun x : List UInt8 => (⟨x.toArray⟩ : ByteArray)) = id := by funext x; simp
  rw [this, List.map_id]
theorem shown_pieces {x : Ac} {l : List UInt8} {D : List ByteArray} (h : Shown x l) (hD : D.map (fun x => x.data.toList) = spl [] l) : refAc D = x ∧ 2 ≤ D.length ∧ D.length ≤ 4 := by
  have hp := pieces_of hD
  clear hD
  cases h with
  | load n h =>
    rw [spl_blank _ _ _ noB_load, spl_noB _ _ (digits_noB n)] at hp
    simp only [List.nil_append, List.map_cons, List.map_nil] at hp
    subst hp
    refine ⟨?_, by simp, by simp⟩
    simp only [refAc]
    rw [kUp_load, numL_digits n (by omega), wrap_small h]
  | store n a h ha =>
    rw [spl_blank _ _ _ noB_store, spl_blank _ _ _ (digits_noB n), spl_noB _ _ (digits_noB a)] at hp
    simp only [List.nil_append, List.map_cons, List.map_nil] at hp
    subst hp
    refine ⟨?_, by simp, by simp⟩
    simp only [refAc]
    rw [kUp_store, numL_digits n (by omega), numL_digits a ha, wrap_small h]
  | cas n a b h ha hb =>
    rw [spl_blank _ _ _ noB_cas, spl_blank _ _ _ (digits_noB n), spl_blank _ _ _ (digits_noB a), spl_noB _ _ (digits_noB b)] at hp
    simp only [List.nil_append, List.map_cons, List.map_nil] at hp
    subst hp
    refine ⟨?_, by simp, by simp⟩
    simp only [refAc]
    rw [kUp_cas, numL_digits n (by omega), numL_digits a ha, numL_digits b hb, wrap_small h]
  | add n a h ha =>
    rw [spl_blank _ _ _ noB_add, spl_blank _ _ _ (digits_noB n), spl_noB _ _ (digits_noB a)] at hp
    simp only [List.nil_append, List.map_cons, List.map_nil] at hp
    subst hp
    refine ⟨?_, by simp, by simp⟩
    simp only [refAc]
    rw [kUp_add, numL_digits n (by omega), numL_digits a ha, wrap_small h]
theorem digits_len (n : Nat) (h : n < 18446744073709551616) : (Lib.decDigits n).length ≤ 20 := by
  have := dg_size n h
  rw [size_list, dg_list] at this
  exact this
theorem shown_len {x : Ac} {l : List UInt8} (h : Shown x l) : l.length ≤ 100 := by
  cases h with
  | load n h => have := digits_len n (by omega); simp [wLoad]; omega
  | store n a h ha => have := digits_len n (by omega); have := digits_len a ha; simp [wStore]; omega
  | cas n a b h ha hb => have := digits_len n (by omega); have := digits_len a ha; have := digits_len b hb; simp [wCas]; omega
  | add n a h ha => have := digits_len n (by omega); have := digits_len a ha; simp [wAdd]; omega
theorem parse_shown {s : ByteArray} {x : Ac} (h : parseO s = some x) : Shown x s.data.toList := by
  have e := parse_text h
  have hne : showB x ≠ ⟨#[]⟩ := by
    intro e'
    rw [← e, e', parse_empty] at h
    cases h
  have := shown_of (parseO_ok h) hne
  rw [e] at this
  exact this
theorem parse_ref {s : ByteArray} {D : List ByteArray} (hD : D.map (fun x => x.data.toList) = spl [] s.data.toList) (h2 : 2 ≤ D.length) (ho : (refAc D).Ok) : parseO s = refX s (refAc D) := by
  unfold refX
  by_cases e : showB (refAc D) = s
  · rw [if_pos e]
    have hne : showB (refAc D) ≠ ⟨#[]⟩ := by
      intro e'
      rw [e] at e'
      subst e'
      have : D.length = 1 := by
        have := congrArg List.length hD
        simpa [spl] using this
      omega
    have := parse_show ho hne
    rw [e] at this
    exact this
  · rw [if_neg e]
    cases hp : parseO s with
    | none => rfl
    | some x =>
      exfalso
      apply e
      rw [(shown_pieces (parse_shown hp) hD).1]
      exact parse_text hp
theorem parse_no {s : ByteArray} (h : ∀ x, parseO s = some x → False) : parseO s = none := by
  cases hp : parseO s with
  | none => rfl
  | some x => exact (h x hp).elim
theorem rparse_at (s : ByteArray) (hs : s.size ≤ 200) (w : World) :
    Calls Tryd.prog 18 #[.string s] w fun e w' => e = .returned (resV (parseO s)) ∧ Below w.heap.size w w' := by
  obtain ⟨D, hD⟩ : ∃ D : List ByteArray, D.map (fun x => x.data.toList) = spl [] s.data.toList := by
    refine ⟨(spl [] s.data.toList).map (fun x => ⟨x.toArray⟩), ?_⟩
    rw [List.map_map]
    have : ((fun x : ByteArray => x.data.toList) ∘ fun x : List UInt8 => (⟨x.toArray⟩ : ByteArray)) = id := by funext x; simp
    rw [this, List.map_id]
  by_cases hb : 100 < s.size
  · rw [parse_no (s := s) (fun x hx => by have := shown_len (parse_shown hx); rw [← size_list] at this; omega)]
    exact rparse_big s hs D hD hb w
  by_cases h2 : D.length < 2
  · rw [parse_no (s := s) (fun x hx => by have := (shown_pieces (parse_shown hx) hD).2; omega)]
    exact rparse_few s hs D hD (by omega) h2 w
  by_cases h4 : 4 < D.length
  · rw [parse_no (s := s) (fun x hx => by have := (shown_pieces (parse_shown hx) hD).2; omega)]
    exact rparse_many s hs D hD (by omega) h4 w
  have rng := fun q : ByteArray => numL_range q.data.toList
  have wr : ∀ n : Int, IntKind.i64.wrap n ≤ 9223372036854775807 := fun n => by rw [IntKind.wrap_i64]; omega
  match D, hD, h2, h4 with
  | [p, q1], hD, h2, h4 =>
    rw [parse_ref hD (by simp) ⟨wr _, by simp [refAc], by simp [refAc], by simp [refAc], by simp [refAc]⟩]
    exact rparse_2 s (by omega) p q1 hD w
  | [p, q1, q2], hD, h2, h4 =>
    rw [parse_ref hD (by simp) ⟨wr _, (rng q2).1, (rng q2).2, by simp [refAc], by simp [refAc]⟩]
    exact rparse_3 s (by omega) p q1 q2 hD w
  | [p, q1, q2, q3], hD, h2, h4 =>
    rw [parse_ref hD (by simp) ⟨wr _, (rng q2).1, (rng q2).2, (rng q3).1, (rng q3).2⟩]
    exact rparse_4 s (by omega) p q1 q2 q3 hD w
  | [], _, h2, _ => exact absurd h2 (by simp)
  | [_], _, h2, _ => exact absurd h2 (by simp)
  | _ :: _ :: _ :: _ :: _ :: _, _, _, h4 => exact absurd h4 (by simp)
end Go.Proofs.YtoeopapnegjooaaDoor
