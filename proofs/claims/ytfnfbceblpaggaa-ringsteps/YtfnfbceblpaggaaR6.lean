/- What the document's answer for layer 6 tells of a ring that can be, and what its Init leaves. Conditions: the counts are below 2^62. -/
import Derived.Test.YtfnfbceblpaggaaR5
namespace Go.Proofs.Ytfnfbceblpaggaa
open Go.RowKit

set_option maxHeartbeats 400000 in
theorem right_any (w : World) (ad sz : Int) :
    Calls Try.prog 14 #[.int .i64 ad, .int .i64 sz] w fun e w' => e = .returned (.bool (canB ad sz)) ∧ w' = w := by
  by_cases h0 : 0 ≤ ad
  · by_cases h1 : ad ≤ 65000
    · by_cases h2 : 2 ≤ sz
      · by_cases h3 : sz ≤ 64
        · rw [show canB ad sz = true by simp [canB, h0, h1, h2, h3]]
          go_enter Try.func14, Try.ntmps14
          go_wp2
          go_ret
          exact ⟨rfl, rfl⟩
        · rw [show canB ad sz = false by simp [canB]; omega]
          go_enter Try.func14, Try.ntmps14
          go_wp2
          go_ret
          exact ⟨rfl, rfl⟩
      · rw [show canB ad sz = false by simp [canB]; omega]
        go_enter Try.func14, Try.ntmps14
        go_wp2
        go_ret
        exact ⟨rfl, rfl⟩
    · rw [show canB ad sz = false by simp [canB]; omega]
      go_enter Try.func14, Try.ntmps14
      go_wp2
      go_ret
      exact ⟨rfl, rfl⟩
  · rw [show canB ad sz = false by simp [canB]; omega]
    go_enter Try.func14, Try.ntmps14
    go_wp2
    go_ret
    exact ⟨rfl, rfl⟩

structure InR (w : World) (p b n k c : Nat) (ad : Int) (s s' : St) (wr : World) : Prop where
  mem : Mem 62 wr p b s'
  cnt : Cnt s' (c + k)
  but : But p b w wr
  eq : initR s ad (emp n) = initR s' (ad + k) ((emp n).drop k)
theorem InR.next {w wr w2 : World} {p b n k c : Nat} {ad v : Int} {s s' : St} (h : InR w p b n k c ad s s' wr) (hk : k < 2 + 2 * n) (hv : (emp n).getD k 0 = v) (he : errV s' (ad + k) = 0) (T : Turns 62 p b wr w2 (storeT s' (ad + k) v)) : InR w p b n (k + 1) c ad s (storeT s' (ad + k) v) w2 := by
  refine ⟨T.1, h.cnt.store _ _, h.but.trans T.2, ?_⟩
  rw [h.eq, initR_at (by rw [empK_length]; exact hk), if_pos he, hv]
  congr 1
  omega
theorem InR.stop {w wr w2 : World} {p b n k c : Nat} {ad v : Int} {s s' : St} (h : InR w p b n k c ad s s' wr) (hk : k < 2 + 2 * n) (hv : (emp n).getD k 0 = v) (he : errV s' (ad + k) ≠ 0) (T : Turns 62 p b wr w2 (storeT s' (ad + k) v)) :
    errV s' (ad + k) = (initR s ad (emp n)).2 ∧ Turns 62 p b w w2 (initR s ad (emp n)).1 := by
  rw [h.eq, initR_at (by rw [empK_length]; exact hk), if_neg he, hv]
  exact ⟨rfl, T.1, h.but.trans T.2⟩
theorem InR.stands {w wr : World} {p b n k c : Nat} {ad : Int} {s s' : St} (h : InR w p b n k c ad s s' wr) (hk : ¬ k < 2 + 2 * n) :
    (0 : Int) = (initR s ad (emp n)).2 ∧ Turns 62 p b w wr (initR s ad (emp n)).1 := by
  rw [h.eq, List.drop_eq_nil_of_le (by rw [empK_length]; omega), initR]
  exact ⟨rfl, h.mem, h.but⟩

set_option maxRecDepth 100000 in
set_option maxHeartbeats 600000 in
theorem rinit_at {w : World} {p b c : Nat} {s : St} (h : Mem 62 w p b s) (hc : Cnt s c) (hk : c + 200 ≤ bnd) (n : Nat) (ad : Int) (q : QOk ad n) :
    Calls Try.prog 13 #[.pointer (some ⟨p, 0, none⟩), .int .i64 ad, .int .i64 n] w fun e w' => e = .returned (.int .i64 (initR s ad (emp n)).2) ∧ Turns 62 p b w w' (initR s ad (emp n)).1 := by
  have HI := hid (show InR w p b n 0 c ad s s w from ⟨h, hc, But.refl _ _ _, by simp⟩)
  have HK := hid hk
  have hn0 : 2 ≤ n := by have := q.s0; omega
  have hn1 : n ≤ 64 := by have := q.s1; omega
  have HR := hid (right_any w ad n)
  rw [q.can] at HR
  have ha0 := q.a0
  have ha1 := q.a1
  clear h hc hk q
  generalize hst : initR s ad (emp n) = st
  have HS := hid hst
  clear hst
  obtain ⟨sT, sE⟩ := st
  go_enter Try.func13, Try.ntmps13
  go_wp2_with fail
  refine HR.out.mono ?_
  rintro e w1 ⟨rfl, hw1⟩
  rw [hw1]
  clear hw1 w1 HR
  go_wp2
  go_loopw [7] (fun i wr => ∃ (k : Nat) (s' : St), k ≤ 2 + 2 * n ∧ i = .int .i64 k ∧ InR w p b n k c ad s s' wr) (fun i _ => 2 + 2 * n - (intOf i).toNat)
  case atStart => exact ⟨0, s, Nat.zero_le _, rfl, HI.out⟩
  case round =>
    obtain ⟨k, s', hk, rfl, hI⟩ := hrel
    have HI := hid hI
    clear hI
    by_cases hlt : k < 2 + 2 * n
    · have hix2 : (k : Int) < 2 + 2 * (n : Int) := by omega
      have hk0 : (0 : Int) ≤ (k : Int) := by omega
      have hget := empK_get n n k hlt
      by_cases h2 : 2 ≤ k
      · have h2i : (2 : Int) ≤ (k : Int) := by omega
        by_cases hev : k % 2 = 0
        · obtain ⟨m, hm⟩ : ∃ m : Nat, (k - 2) / 2 = m := ⟨_, rfl⟩
          have htm : (k : Int).tmod 2 = 0 := by rw [Int.tmod_eq_emod_of_nonneg hk0]; omega
          have htd : ((k : Int) - 2).tdiv 2 = (m : Int) := by rw [Int.tdiv_eq_ediv_of_nonneg (by omega)]; omega
          have hm0 : (0 : Int) ≤ (m : Int) := by omega
          have hm1 : (m : Int) ≤ 64 := by omega
          have hget2 : (emp n).getD k 0 = (m : Int) := by rw [hget, if_pos ⟨h2, hev, by omega⟩, hm]
          have HV := hid hget2
          clear hget hget2 hm
          go_wp2_with fail
          clear htm htd
          refine (rstore_any HI.out.mem HI.out.cnt (by have := HK.out; omega) (ad + k) m).mono ?_
          rintro e3 w3 ⟨rfl, T⟩
          have HT := hid T
          clear T
          by_cases he : errV s' (ad + k) = 0
          · rw [he]
            go_wp2
            exact ⟨⟨k + 1, _, by omega, by go_num, HI.out.next hlt HV.out he HT.out⟩, by simp [intOf]; omega⟩
          · have hb : (errV s' (ad + k) != 0) = true := by simpa using he
            obtain ⟨e1, T⟩ := HI.out.stop hlt HV.out he HT.out
            rw [HS.out] at e1 T
            have HT2 := hid T
            have HE := hid e1
            clear T e1
            generalize errV s' (ad + k) = ev at *
            go_wp2
            go_ret
            exact ⟨by rw [← HE.out]; rfl, HT2.out⟩
        · have htm : (k : Int).tmod 2 = 1 := by rw [Int.tmod_eq_emod_of_nonneg hk0]; omega
          have hget2 : (emp n).getD k 0 = 0 := by rw [hget, if_neg (by omega)]
          have HV := hid hget2
          clear hget hget2
          go_wp2_with fail
          clear htm
          refine (rstore_any HI.out.mem HI.out.cnt (by have := HK.out; omega) (ad + k) 0).mono ?_
          rintro e3 w3 ⟨rfl, T⟩
          have HT := hid T
          clear T
          by_cases he : errV s' (ad + k) = 0
          · rw [he]
            go_wp2
            exact ⟨⟨k + 1, _, by omega, by go_num, HI.out.next hlt HV.out he HT.out⟩, by simp [intOf]; omega⟩
          · have hb : (errV s' (ad + k) != 0) = true := by simpa using he
            obtain ⟨e1, T⟩ := HI.out.stop hlt HV.out he HT.out
            rw [HS.out] at e1 T
            have HT2 := hid T
            have HE := hid e1
            clear T e1
            generalize errV s' (ad + k) = ev at *
            go_wp2
            go_ret
            exact ⟨by rw [← HE.out]; rfl, HT2.out⟩
      · have h2i : (k : Int) < 2 := by omega
        have hget2 : (emp n).getD k 0 = 0 := by rw [hget, if_neg (by omega)]
        have HV := hid hget2
        clear hget hget2
        go_wp2_with fail
        refine (rstore_any HI.out.mem HI.out.cnt (by have := HK.out; omega) (ad + k) 0).mono ?_
        rintro e3 w3 ⟨rfl, T⟩
        have HT := hid T
        clear T
        by_cases he : errV s' (ad + k) = 0
        · rw [he]
          go_wp2
          exact ⟨⟨k + 1, _, by omega, by go_num, HI.out.next hlt HV.out he HT.out⟩, by simp [intOf]; omega⟩
        · have hb : (errV s' (ad + k) != 0) = true := by simpa using he
          obtain ⟨e1, T⟩ := HI.out.stop hlt HV.out he HT.out
          rw [HS.out] at e1 T
          have HT2 := hid T
          have HE := hid e1
          clear T e1
          generalize errV s' (ad + k) = ev at *
          go_wp2
          go_ret
          exact ⟨by rw [← HE.out]; rfl, HT2.out⟩
    · obtain ⟨e1, T⟩ := HI.out.stands hlt
      rw [HS.out] at e1 T
      have HT2 := hid T
      have HE := hid e1
      clear T e1 HI
      have hix2 : 2 + 2 * (n : Int) ≤ (k : Int) := by omega
      go_wp2
      go_ret
      exact ⟨by rw [← HE.out]; rfl, HT2.out⟩
set_option maxHeartbeats 400000 in
theorem rinit_no (w : World) (q : Value) {ad sz : Int} (h : canB ad sz = false) :
    Calls Try.prog 13 #[q, .int .i64 ad, .int .i64 sz] w fun e w' => e = .returned (.int .i64 1) ∧ w' = w := by
  have HR := hid (right_any w ad sz)
  rw [h] at HR
  clear h
  go_enter Try.func13, Try.ntmps13
  go_wp2_with fail
  refine HR.out.mono ?_
  rintro e w1 ⟨rfl, hw1⟩
  rw [hw1]
  clear hw1 w1
  go_wp2
  go_ret
  exact ⟨rfl, rfl⟩
end Go.Proofs.Ytfnfbceblpaggaa
