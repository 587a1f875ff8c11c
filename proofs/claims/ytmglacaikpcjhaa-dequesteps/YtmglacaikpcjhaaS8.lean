/- A task alone: what run of the statements returns and leaves. Conditions: the words and values are of 64 bits; the counts are below 2^62. -/
import Derived.Test.YtmglacaikpcjhaaS5
import Derived.Test.YtmglacaikpcjhaaS6
namespace Go.Proofs.Ytmglacaikpcjhaa
open Go.RowKit

structure SOk (s : St) : Prop where
  w : ∀ i, 0 ≤ s.xs.getD i 0 ∧ s.xs.getD i 0 ≤ 18446744073709551615
structure YOk (x : Tk) : Prop where
  xo : XOk x
  vo : ∀ v, x.kd = .push v → 0 ≤ v ∧ v ≤ 18446744073709551615
  l0 : 0 ≤ x.vl
  l1 : x.vl ≤ 18446744073709551615
theorem add64_bounds (a b : Int) : 0 ≤ add64 a b ∧ add64 a b ≤ 18446744073709551615 := by
  unfold add64
  have h1 := Int.emod_nonneg (a + b) (show (18446744073709551616 : Int) ≠ 0 by decide)
  have h2 := Int.emod_lt_of_pos (a + b) (show (0 : Int) < 18446744073709551616 by decide)
  omega
theorem SOk.load {s : St} (h : SOk s) (a : Int) : 0 ≤ loadV s a ∧ loadV s a ≤ 18446744073709551615 := by
  unfold loadV
  split
  · exact h.w _
  · decide
theorem getD_set_any {l : List Int} {i j : Nat} {v : Int} : (l.set i v).getD j 0 = if i = j ∧ j < l.length then v else l.getD j 0 := by
  simp only [List.getD, List.getElem?_set]
  by_cases h : i = j
  · subst h
    by_cases h2 : i < l.length
    · simp [h2]
    · simp [h2]
  · simp [h]
theorem SOk.set {xs : List Int} {d l d' l' : Int} (h : SOk ⟨xs, d, l⟩) (i : Nat) {v : Int} (hv : 0 ≤ v ∧ v ≤ 18446744073709551615) : SOk ⟨xs.set i v, d', l'⟩ := by
  refine ⟨fun j => ?_⟩
  simp only [getD_set_any]
  split
  · exact hv
  · exact h.w j
theorem SOk.store {s : St} (h : SOk s) (a : Int) {v : Int} (hv : 0 ≤ v ∧ v ≤ 18446744073709551615) : SOk (storeT s a v) := by
  unfold storeT
  split
  · exact SOk.set (d := s.d) (l := s.l) h _ hv
  · exact h
theorem SOk.loadT {s : St} (h : SOk s) (a : Int) : SOk (loadT s a) := by
  unfold Ytmglacaikpcjhaa.loadT
  split
  · exact ⟨h.w⟩
  · exact h
theorem SOk.cas {s : St} (h : SOk s) (a o : Int) {v : Int} (hv : 0 ≤ v ∧ v ≤ 18446744073709551615) : SOk (casT s a o v) := by
  unfold casT
  split
  · split
    · exact SOk.set (d := s.d) (l := s.l) h _ hv
    · exact ⟨h.w⟩
  · exact h

theorem dec64_bounds (a : Int) : 0 ≤ dec64 a ∧ dec64 a ≤ 18446744073709551615 := by
  unfold dec64
  simp only [IntKind.wrap, IntKind.signed, IntKind.bits]
  have h1 := Int.emod_nonneg (a - 1) (show (18446744073709551616 : Int) ≠ 0 by decide)
  have h2 := Int.emod_lt_of_pos (a - 1) (show (0 : Int) < 18446744073709551616 by decide)
  simp
  omega
theorem doR_bounds {s : St} (hs : SOk s) (a : Ac) : 0 ≤ (doR s a).v ∧ (doR s a).v ≤ 18446744073709551615 := by
  unfold doR
  split
  · exact hs.load _
  · split
    · simp
    · split
      · simp
      · split
        · exact hs.load _
        · simp
theorem tGo_ok {x : Tk} {r : Re} (h : YOk x) (hr : 0 ≤ r.v ∧ r.v ≤ 18446744073709551615) : YOk (tGo x r) := by
  obtain ⟨⟨⟨q, p0, p1, b0, b1⟩, t⟩, hv, l0, l1⟩ := h
  obtain ⟨ad, sz, kd, tn, tp, bt, vl, hs⟩ := x
  simp only [] at q p0 p1 b0 b1 t hv l0 l1
  have hd := dec64_bounds r.v
  unfold tGo
  split
  · cases kd with
    | push v =>
      have := hv v rfl
      simp only [goP]
      repeat' split
      all_goals exact ⟨⟨⟨q, by simp only []; omega, by simp only []; omega, by simp only []; omega, by simp only []; omega⟩, by simp [turnOk]⟩, hv, by simp only []; omega, by simp only []; omega⟩
    | pop =>
      simp only [goG]
      repeat' split
      all_goals exact ⟨⟨⟨q, by simp only []; omega, by simp only []; omega, by simp only []; omega, by simp only []; omega⟩, by simp [turnOk]⟩, hv, by simp only []; omega, by simp only []; omega⟩
    | steal =>
      simp only [goS]
      repeat' split
      all_goals exact ⟨⟨⟨q, by simp only []; omega, by simp only []; omega, by simp only []; omega, by simp only []; omega⟩, by simp [turnOk]⟩, hv, by simp only []; omega, by simp only []; omega⟩
  · exact ⟨⟨⟨q, p0, p1, b0, b1⟩, by cases kd <;> simp [turnOk]⟩, hv, l0, l1⟩
theorem YOk.next {s : St} {x : Tk} (hs : SOk s) (h : YOk x) : YOk (tX s x) := by
  unfold tX
  split
  · exact h
  · exact tGo_ok h (doR_bounds hs _)
theorem SOk.next {s : St} {x : Tk} (hs : SOk s) (h : YOk x) : SOk (tT s x) := by
  unfold tT
  by_cases hz : x.tn = 6
  · rw [if_pos hz]; exact hs
  · rw [if_neg hz]
    have hr := h.xo.range
    have hb := h.xo.ok
    unfold tNext
    split
    · exact hs.loadT _
    · split
      · exact hs.loadT _
      · split
        · exact hs.store _ ⟨hb.b0, hb.b1⟩
        · split
          · cases hk : x.kd with
            | push v => simp only [moveA, doT]; exact hs.store _ (h.vo v hk)
            | pop => exact hs.loadT _
            | steal => exact hs.loadT _
          · split
            · exact hs.cas _ _ (add64_bounds _ _)
            · split
              · exact hs.store _ (add64_bounds _ _)
              · omega
theorem Cnt.next {s : St} {k : Nat} (c : Cnt s k) (x : Tk) : Cnt (tT s x) (k + 1) := by
  unfold tT
  split
  · exact c.mono (by omega)
  · generalize tNext x = a
    unfold doT
    split
    · exact c.load _
    · split
      · exact c.store _ _
      · split
        · exact c.cas _ _ _
        · split
          · exact c.add _ _
          · exact c.mono (by omega)

/-- Steps of one alone. -/
def run : Nat → St → Tk → St × Tk
  | 0, s, x => (s, x)
  | k + 1, s, x => run k (tT s x) (tX s x)
theorem run_done {x : Tk} (h : x.tn = 6) (s : St) : ∀ k, run k s x = (s, x)
  | 0 => rfl
  | k + 1 => by
    rw [run, show tT s x = s by simp [tT, h], show tX s x = x by simp [tX, h]]
    exact run_done h s k
abbrev newP (ad sz v : Int) : Tk := ⟨ad, sz, .push v, 1, 0, 0, 0, false⟩
abbrev newG (ad sz : Int) : Tk := ⟨ad, sz, .pop, 1, 0, 0, 0, false⟩
abbrev newS (ad sz : Int) : Tk := ⟨ad, sz, .steal, 0, 0, 0, 0, false⟩
theorem newP_ok {ad sz v : Int} (q : QOk ad sz) (h0 : 0 ≤ v) (h1 : v ≤ 18446744073709551615) : YOk (newP ad sz v) :=
  ⟨⟨⟨q, by simp, by simp, by simp, by simp⟩, by simp [turnOk]⟩, fun u e => by obtain rfl := Kd.push.inj e; exact ⟨h0, h1⟩, by simp, by simp⟩
theorem newG_ok {ad sz : Int} (q : QOk ad sz) : YOk (newG ad sz) :=
  ⟨⟨⟨q, by simp, by simp, by simp, by simp⟩, by simp [turnOk]⟩, fun u e => (by cases e), by simp, by simp⟩
theorem newS_ok {ad sz : Int} (q : QOk ad sz) : YOk (newS ad sz) :=
  ⟨⟨⟨q, by simp, by simp, by simp, by simp⟩, by simp [turnOk]⟩, fun u e => (by cases e), by simp, by simp⟩

/-- What stands while one goes on alone. -/
structure Al (w : World) (p b g c k : Nat) (s0 : St) (x0 : Tk) (s : St) (x : Tk) (wr : World) : Prop where
  hs : Hs wr p b g s x
  y : YOk x
  so : SOk s
  co : Cnt s (c + k)
  but : But3 g p b w wr
  eq : run (10 - k) s x = run 10 s0 x0
theorem Al.next {w wr w2 : World} {p b g c k : Nat} {s0 s : St} {x0 x : Tk} (h : Al w p b g c k s0 x0 s x wr) (hk : k < 10) (T : Hs w2 p b g (tT s x) (tX s x) ∧ But3 g p b wr w2) :
    Al w p b g c (k + 1) s0 x0 (tT s x) (tX s x) w2 := by
  refine ⟨T.1, h.y.next h.so, h.so.next h.y, h.co.next x, h.but.trans T.2, ?_⟩
  rw [← h.eq, show 10 - k = (10 - (k + 1)) + 1 by omega, run]
theorem Al.stop {w wr w2 : World} {p b g c k : Nat} {s0 s : St} {x0 x : Tk} (h : Al w p b g c k s0 x0 s x wr) (hk : k < 10) (T : Hs w2 p b g (tT s x) (tX s x) ∧ But3 g p b wr w2) (hd : (tX s x).tn = 6) :
    Al w p b g c 11 s0 x0 (tT s x) (tX s x) w2 := by
  have h1 := h.next hk T
  refine ⟨h1.hs, h1.y, h1.so, h1.co.mono (by omega), h1.but, ?_⟩
  rw [← h1.eq, run_done hd, run_done hd]

set_option maxRecDepth 100000 in
set_option maxHeartbeats 600000 in
theorem run_at {w : World} {p b g c : Nat} {s : St} {x : Tk} (h : Hs w p b g s x) (hy : YOk x) (hc : Cnt s c) (hk : c + 20 ≤ bnd) (hs : SOk s) :
    Calls Try.prog 25 #[.pointer (some ⟨p, 0, none⟩), .pointer (some ⟨g, 0, none⟩)] w fun e w' => e = .returned (.tuple #[.int .u64 (resV (run 10 s x).2), .bool (resB (run 10 s x).2)]) ∧ Hs w' p b g (run 10 s x).1 (run 10 s x).2 ∧ But3 g p b w w' := by
  have HI : Hid (Al w p b g c 0 s x s x w) := hid ⟨h, hy, hs, hc, But3.of_below (Below.refl _ _), rfl⟩
  have HK := hid hk
  clear h hc hk hs hy
  generalize hR : run 10 s x = R at *
  have HR := hid hR
  clear hR
  obtain ⟨sR, R⟩ := R
  go_enter Try.func25, Try.ntmps25
  go_wp2
  go_loopw [6] (fun i wr => ∃ (k : Nat) (s' : St) (x' : Tk), k ≤ 11 ∧ i = .int .i64 k ∧ Al w p b g c k s x s' x' wr) (fun i _ => 11 - (intOf i).toNat)
  case atStart => exact ⟨0, _, _, by omega, rfl, HI.out⟩
  case round =>
    obtain ⟨k, s', x', hk, rfl, hI⟩ := hrel
    have HI := hid hI
    clear hI
    by_cases hlt : k < 10
    · go_wp2_with fail
      refine (tstep_at HI.out.hs HI.out.y.xo HI.out.co (by have := HK.out; omega)).mono ?_
      rintro e3 w3 ⟨rfl, T⟩
      have HT := hid T
      clear T
      by_cases hd : (tX s' x').tn = 6
      · have hb : ((tX s' x').tn == 6) = true := by simp [hd]
        rw [hb]
        go_wp2
        exact ⟨⟨11, _, _, by omega, by go_num, HI.out.stop hlt HT.out hd⟩, by simp [intOf]; omega⟩
      · have hb : ((tX s' x').tn == 6) = false := by simp [hd]
        rw [hb]
        go_wp2
        exact ⟨⟨k + 1, _, _, by omega, by go_num, HI.out.next hlt HT.out⟩, by simp [intOf]; omega⟩
    · have e0 : 10 - k = 0 := by omega
      have e1 := HI.out.eq
      rw [e0, run, HR.out] at e1
      obtain ⟨rfl, rfl⟩ := Prod.mk.inj e1
      clear e0 e1
      go_wp2_with fail
      refine (res_at HI.out.hs.tk).mono ?_
      rintro e4 w4 ⟨rfl, hm⟩
      have HT : Hid (Hs w4 p b g s' x' ∧ But3 g p b w w4) := hid (by rw [hm]; exact ⟨HI.out.hs, HI.out.but⟩)
      have HE : Hid (resB x' = true → (x'.tn == 6) = true) := hid (fun hh => by unfold resB at hh; simp at hh; simp [hh.1])
      clear hm
      obtain ⟨rb, hrb⟩ : ∃ rb, resB x' = rb := ⟨_, rfl⟩
      rw [hrb] at HE ⊢
      have HW := hid hrb
      clear hrb
      obtain ⟨rv, hrv⟩ : ∃ rv, resV x' = rv := ⟨_, rfl⟩
      rw [hrv]
      have HV := hid hrv
      clear hrv
      cases rb
      · go_wp2
        go_ret2
        exact ⟨by rw [HW.out, HV.out]; rfl, HT.out⟩
      · have hb := HE.out rfl
        rw [hb]
        clear HE hb
        go_wp2
        go_ret2
        exact ⟨by rw [HW.out, HV.out]; rfl, HT.out⟩
end Go.Proofs.Ytmglacaikpcjhaa
