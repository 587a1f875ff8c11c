/- A round of the program's and the document's: what each call of it tells and leaves, by conditions on memory that are letters. Conditions: the counts are below 2^62. -/
import Derived.Test.YtmglacaikpcjhaaY7
import Derived.Test.YtmglacaikpcjhaaR6
import Derived.Test.YtmglacaikpcjhaaW5
namespace Go.Proofs.Ytmglacaikpcjhaa
open Go.RowKit

theorem storeT_len (s : St) (a v : Int) : (storeT s a v).xs.length = s.xs.length := by unfold storeT; split <;> simp
theorem loadT_len (s : St) (a : Int) : (loadT s a).xs.length = s.xs.length := by unfold loadT; split <;> rfl
theorem casT_len (s : St) (a o v : Int) : (casT s a o v).xs.length = s.xs.length := by
  unfold casT
  repeat' split
  all_goals simp
theorem tT_len (s : St) (x : Tk) : (tT s x).xs.length = s.xs.length := by
  unfold tT
  split
  · rfl
  · generalize tNext x = a
    unfold doT
    split
    · exact loadT_len _ _
    · split
      · exact storeT_len _ _ _
      · split
        · exact casT_len _ _ _ _
        · split
          · exact storeT_len _ _ _
          · rfl
theorem sok_zero (L : Nat) : SOk ⟨List.replicate L 0, 0, 0⟩ := ⟨fun i => by
  by_cases h : i < L
  · simp [List.getD, h]
  · simp [List.getD, h]⟩

/-- As many words as L; each task is as the document's. -/
structure Pu (L k : Nat) (s : St) (fT : Nat → Tk) (fU : Nat → Us) (xo : Tk) (uo : Us) : Prop where
  len : s.xs.length = L
  so : SOk s
  lt : ∀ i, i < k → Lk (fT i) (fU i) ∧ YOk (fT i)
  lo : Lk xo uo ∧ YOk xo
section
variable {L k : Nat} {s : St} {fT : Nat → Tk} {fU : Nat → Us} {xo : Tk} {uo : Us}
theorem Pu.stepT (H : Pu L k s fT fU xo uo) {i : Nat} (hi : i < k) : Pu L k (tT s (fT i)) (put fT i (tX s (fT i))) (put fU i (uX s (fU i))) xo uo := by
  obtain ⟨hl, hy⟩ := H.lt i hi
  refine ⟨(tT_len _ _).trans H.len, H.so.next hy, fun j hj => ?_, H.lo⟩
  by_cases e : j = i
  · subst e; rw [put_at, put_at]; exact ⟨hl.step hy s, hy.next H.so⟩
  · rw [put_ne _ _ e, put_ne _ _ e]; exact H.lt j hj
theorem Pu.stepO (H : Pu L k s fT fU xo uo) : Pu L k (tT s xo) fT fU (tX s xo) (uX s uo) := by
  obtain ⟨hl, hy⟩ := H.lo
  exact ⟨(tT_len _ _).trans H.len, H.so.next hy, H.lt, hl.step hy s, hy.next H.so⟩
theorem Pu.push (H : Pu L k s fT fU xo uo) {x : Tk} {u : Us} (h : Lk x u) (hy : YOk x) : Pu L (k + 1) s (put fT k x) (put fU k u) xo uo :=
  ⟨H.len, H.so, fun j hj => by
    by_cases e : j = k
    · subst e; rw [put_at, put_at]; exact ⟨h, hy⟩
    · rw [put_ne _ _ e, put_ne _ _ e]; exact H.lt j (by omega), H.lo⟩
theorem Pu.newO (H : Pu L k s fT fU xo uo) {x : Tk} {u : Us} (h : Lk x u ∧ YOk x) : Pu L k s fT fU x u := ⟨H.len, H.so, H.lt, h⟩
end

structure Rnd (T0 T1 T2 : World → Prop) (g g' p p' : Nat) (a : Ac) (dn : Bool) : Prop where
  n1 : ∀ {w' : World}, T0 w' → Calls Try.prog 16 #[.pointer (some ⟨g, 0, none⟩)] w' fun e w'' => e = .returned (acV a) ∧ T0 w''
  n2 : ∀ {w' : World}, T0 w' → Calls Try.prog 17 #[.pointer (some ⟨g', 0, none⟩)] w' fun e w'' => e = .returned (acV a) ∧ T0 w''
  s1 : ∀ {w' : World}, T0 w' → Calls Try.prog 18 #[.pointer (some ⟨g, 0, none⟩), .pointer (some ⟨p, 0, none⟩)] w' fun e w'' => e = .returned (.bool dn) ∧ T1 w''
  s2 : ∀ {w' : World}, T1 w' → Calls Try.prog 19 #[.pointer (some ⟨g', 0, none⟩), .pointer (some ⟨p', 0, none⟩)] w' fun e w'' => e = .returned (.bool dn) ∧ T2 w''
structure Res (T2 : World → Prop) (g : Nat) (v : Int) (hs dn : Bool) : Prop where
  re : ∀ {w' : World}, T2 w' → Calls Try.prog 20 #[.pointer (some ⟨g, 0, none⟩)] w' fun e w'' => e = .returned (.tuple #[.int .u64 v, .bool hs, .bool dn]) ∧ T2 w''
/-- What is loaded behind the steps. -/
abbrev Cf (p' b' g' L : Nat) (u : Int) (hs dn : Bool) (w : World) : Prop :=
  (w.cell? ⟨p', 0, none⟩ = some (.slice (some ⟨b', 0, none⟩) L L) ∧ w.cell? ⟨g', 3, none⟩ = some (.int .u64 u)) ∧ (w.cell? ⟨g', 8, none⟩ = some (.bool dn) ∧ w.cell? ⟨g', 9, none⟩ = some (.bool hs))
structure Aft (T2 : World → Prop) (T3 : Nat → World → Prop) (p p' b' g' L : Nat) (u : Int) (hs dn : Bool) : Prop where
  cf : ∀ {w' : World}, T2 w' → Cf p' b' g' L u hs dn w'
  dr : ∀ {w' : World}, T2 w' → T2 w'.drew
  w1 : ∀ {w' : World}, T2 w' → Calls Try.prog 22 #[.pointer (some ⟨p, 0, none⟩), .int .i64 0, .int .i64 (L : Int)] w' fun e w'' => ∃ u', e = .returned (.slice (some ⟨u', 0, none⟩) L L) ∧ T3 u' w'' ∧ Cf p' b' g' L u hs dn w''
  w2 : ∀ {w' : World} {u' : Nat}, T3 u' w' → Calls Try.prog 21 #[.slice (some ⟨u', 0, none⟩) L L, .slice (some ⟨b', 0, none⟩) L L] w' fun e w'' => e = .returned (.bool true) ∧ T2 w'' ∧ Cf p' b' g' L u hs dn w''

theorem mk_aft {T2 : World → Prop} {p b p' b' g' L : Nat} {s : St} {u0 : Us} (hA : ∀ {w'}, T2 w' → Mem 78 w' p b s ∧ Mem 58 w' p' b' s ∧ IsUs w' g' u0) (hB : ∀ {w' w'' : World}, T2 w' → Below w'.heap.size w' w'' → T2 w'') (hl : s.xs.length = L) (h1 : 1 ≤ L) (h2 : L ≤ 65536) :
    Aft T2 (fun u w' => T2 w' ∧ ∃ xs, IsRow w' u xs ∧ IsRow w' b' xs ∧ xs.length = L) p p' b' g' L u0.v u0.hs u0.dn := by
  have cf : ∀ {w'}, T2 w' → Cf p' b' g' L u0.v u0.hs u0.dn w' := fun {w'} H => by
    obtain ⟨_, h, hu⟩ := hA H
    have c := h.cells.1
    rw [hl] at c
    exact ⟨⟨c, hu.uc.c3⟩, hu.uc.c8, hu.uc.c9⟩
  refine ⟨cf, fun {w'} H => hB H (Below.refl _ _).drew, fun {w'} H => ?_, fun {w' u} H => ?_⟩
  · obtain ⟨hm, _, _⟩ := hA H
    refine (words_yes hm 0 L h1 (by omega)).mono ?_
    rintro e w'' ⟨rfl, hR, K⟩
    have hcut : cut s.xs 0 L = s.xs := by unfold cut; rw [← hl]; simp
    rw [hcut] at hR
    have H2 := hB H K
    exact ⟨_, rfl, ⟨H2, s.xs, hR, (hA H2).2.1.row, hl⟩, cf H2⟩
  · obtain ⟨H1, xs, hR, hR', hx⟩ := H
    refine (same_any (hR.lies (c := L) hx h2) (hR'.lies (c := L) hx h2)).mono ?_
    rintro e w'' ⟨rfl, K⟩
    exact ⟨rfl, hB H1 K, cf (hB H1 K)⟩

/-- A round that can be walked: g, g' are the program's task and the document's. -/
def Rd (nx : World → Prop) (p p' b' L g g' : Nat) (w : World) : Prop :=
  ∃ (T0 T1 T2 : World → Prop) (T3 : Nat → World → Prop) (a : Ac) (v u : Int) (hs dn : Bool), T0 w ∧ Rnd T0 T1 T2 g g' p p' a dn ∧ Res T2 g v hs dn ∧ Aft T2 T3 p p' b' g' L u hs dn ∧ (hs = true → u = v) ∧ (hs = false → v = 0) ∧ ∀ w', T2 w' → nx w'
theorem rd_of {T0 T1 T2 nx : World → Prop} {p b p' b' L g g' j : Nat} {w : World} {s : St} {x : Tk} {u : Us} (H : T0 w) (hl : Lk x u) (hy : YOk x) (hc : Cnt s j) (hj : j ≤ bnd) (hL : s.xs.length = L) (h1 : 1 ≤ L) (h2 : L ≤ 65536)
    (b0 : ∀ {w' w'' : World}, T0 w' → Below w'.heap.size w' w'' → T0 w'')
    (a0 : ∀ {w' : World}, T0 w' → Hs w' p b g s x ∧ IsUs w' g' u)
    (a1 : ∀ {w' w'' : World}, T0 w' → Hs w'' p b g (tT s x) (tX s x) ∧ But3 g p b w' w'' → T1 w'')
    (a2 : ∀ {w' : World}, T1 w' → Rs w' p' b' g' s u)
    (a3 : ∀ {w' w'' : World}, T1 w' → Rs w'' p' b' g' (tT s x) (uX s u) ∧ But3 g' p' b' w' w'' → T2 w'')
    (a4 : ∀ {w' : World}, T2 w' → Hs w' p b g (tT s x) (tX s x) ∧ Rs w' p' b' g' (tT s x) (uX s u))
    (b2 : ∀ {w' w'' : World}, T2 w' → Below w'.heap.size w' w'' → T2 w'')
    (fin : ∀ w', T2 w' → nx w') : Rd nx p p' b' L g g' w := by
  obtain ⟨r1, r2, r3, r4⟩ := (hl.step hy s).res
  have hA := mk_aft (T2 := T2) (p := p) (b := b) (p' := p') (b' := b') (g' := g') (s := tT s x) (u0 := uX s u) (fun h => ⟨(a4 h).1.mem, (a4 h).2.mem, (a4 h).2.us⟩) b2 ((tT_len _ _).trans hL) h1 h2
  rw [r1, r2] at hA
  refine ⟨T0, T1, T2, _, tNext x, resV (tX s x), (uX s u).v, resB (tX s x), (tX s x).tn == 6, H, ⟨fun {w'} H => ?_, fun {w'} H => ?_, fun {w'} H => ?_, fun {w'} H => ?_⟩, ⟨fun {w'} H => ?_⟩, hA, r3, r4, fin⟩
  · refine (tnext_at (a0 H).1.tk hy.xo).mono ?_
    rintro e w'' ⟨rfl, K⟩
    exact ⟨rfl, b0 H K⟩
  · refine (unext_at (a0 H).2 (hl.uok hy)).mono ?_
    rintro e w'' ⟨rfl, K⟩
    exact ⟨by rw [hl.next hy], b0 H K⟩
  · refine (tstep_at (a0 H).1 hy.xo hc hj).mono ?_
    rintro e w'' ⟨rfl, K⟩
    exact ⟨rfl, a1 H K⟩
  · refine (ustep_at (a2 H) (hl.uok hy) hc hj).mono ?_
    rintro e w'' ⟨rfl, K⟩
    rw [hl.turn hy] at K
    exact ⟨by rw [r2], a3 H K⟩
  · refine (res_at (a4 H).1.tk).mono ?_
    rintro e w'' ⟨rfl, hw⟩
    rw [hw]
    exact ⟨rfl, H⟩

/-- Where a round begins and ends. -/
def Nx (w0 : World) (p b r : Nat) (ad n : Int) (p' b' k : Nat) (GT : Nat → Nat) (vT : Value) (GU : Nat → Nat) (vU : Value) (L : Nat) (o : Option (Nat × Nat)) (j : Nat) (w : World) : Prop :=
  ∃ (cl : Nat → Nat) (s : St) (fT : Nat → Tk) (fU : Nat → Us) (xo : Tk) (uo : Us), Tw w0 p b r ad n p' b' k GT vT k GU vU o cl s s fT fU xo uo w ∧ Pu L k s fT fU xo uo ∧ Cnt s j
section
variable {w0 w w' : World} {p b r : Nat} {ad n : Int} {p' b' k : Nat} {GT : Nat → Nat} {vT : Value} {GU : Nat → Nat} {vU : Value} {L j : Nat} {o : Option (Nat × Nat)}
theorem Nx.below (H : Nx w0 p b r ad n p' b' k GT vT GU vU L o j w) (K : Below w.heap.size w w') : Nx w0 p b r ad n p' b' k GT vT GU vU L o j w' := by
  obtain ⟨cl, s, fT, fU, xo, uo, h, P, c⟩ := H
  exact ⟨cl, s, fT, fU, xo, uo, h.below K, P, c⟩
theorem Nx.bel (H : Nx w0 p b r ad n p' b' k GT vT GU vU L o j w) : Below w0.heap.size w0 w := by
  obtain ⟨cl, s, fT, fU, xo, uo, h, P, c⟩ := H
  exact h.kn.bel
theorem Nx.deq (H : Nx w0 p b r ad n p' b' k GT vT GU vU L o j w) : (w.cell? ⟨r, 0, none⟩ = some (.int .i64 ad) ∧ w.cell? ⟨r, 1, none⟩ = some (.int .i64 n)) ∧ r < w.heap.size := by
  obtain ⟨cl, s, fT, fU, xo, uo, h, P, c⟩ := H
  exact ⟨⟨h.kn.c0, h.kn.c1⟩, lt_of_block h.kn.deq⟩
/-- Whether the owner's task is done, as the document's says. -/
theorem Nx.dn (H : Nx w0 p b r ad n p' b' k GT vT GU vU L o j w) {g g' : Nat} (ho : o = some (g, g')) : ∃ dn : Bool, w.cell? ⟨g', 8, none⟩ = some (.bool dn) := by
  obtain ⟨cl, s, fT, fU, xo, uo, h, P, c⟩ := H
  exact ⟨_, (h.rsO ho).us.uc.c8⟩
theorem Nx.atT {vq uq : Option Addr} {vc uc : Nat} (H : Nx w0 p b r ad n p' b' k GT (.slice vq k vc) GU (.slice uq k uc) L o j w) (hk : 0 < k) :
    (∃ q, vq = some ⟨q, 0, none⟩ ∧ vc ≤ maxLen ∧ k ≤ vc ∧ ∀ i, i < k → w.cell? ⟨q, i, none⟩ = some (.pointer (some ⟨GT i, 0, none⟩))) ∧
    (∃ q, uq = some ⟨q, 0, none⟩ ∧ uc ≤ maxLen ∧ k ≤ uc ∧ ∀ i, i < k → w.cell? ⟨q, i, none⟩ = some (.pointer (some ⟨GU i, 0, none⟩))) := by
  obtain ⟨cl, s, fT, fU, xo, uo, h, P, c⟩ := H
  exact ⟨h.ft.at hk, h.fu.at hk⟩
theorem rd_T (H : Nx w0 p b r ad n p' b' k GT vT GU vU L o j w) (hj : j ≤ bnd) (h1 : 1 ≤ L) (h2 : L ≤ 65536) {i : Nat} (hi : i < k) :
    Rd (Nx w0 p b r ad n p' b' k GT vT GU vU L o (j + 1)) p p' b' L (GT i) (GU i) w := by
  obtain ⟨cl, s, fT, fU, xo, uo, h, P, c⟩ := H
  obtain ⟨hl, hy⟩ := P.lt i hi
  exact rd_of (T0 := Tw w0 p b r ad n p' b' k GT vT k GU vU o cl s s fT fU xo uo) (T1 := Tw w0 p b r ad n p' b' k GT vT k GU vU o cl (tT s (fT i)) s (put fT i (tX s (fT i))) fU xo uo)
    (T2 := Tw w0 p b r ad n p' b' k GT vT k GU vU o cl (tT s (fT i)) (tT s (fT i)) (put fT i (tX s (fT i))) (put fU i (uX s (fU i))) xo uo) h hl hy c hj P.len h1 h2
    (fun h K => h.below K) (fun h => ⟨h.hsT hi, (h.rsT hi).us⟩) (fun h K => h.stepT hi K) (fun h => h.rsT hi) (fun h K => h.stepTU hi K)
    (fun h => ⟨by have := h.hsT hi; rw [put_at] at this; exact this, by have := h.rsT hi; rw [put_at] at this; exact this⟩) (fun h K => h.below K)
    (fun w' h => ⟨cl, _, _, _, _, _, h, P.stepT hi, c.next _⟩)
theorem rd_O (H : Nx w0 p b r ad n p' b' k GT vT GU vU L o j w) (hj : j ≤ bnd) (h1 : 1 ≤ L) (h2 : L ≤ 65536) {g g' : Nat} (ho : o = some (g, g')) :
    Rd (Nx w0 p b r ad n p' b' k GT vT GU vU L o (j + 1)) p p' b' L g g' w := by
  obtain ⟨cl, s, fT, fU, xo, uo, h, P, c⟩ := H
  obtain ⟨hl, hy⟩ := P.lo
  exact rd_of (T0 := Tw w0 p b r ad n p' b' k GT vT k GU vU o cl s s fT fU xo uo) (T1 := Tw w0 p b r ad n p' b' k GT vT k GU vU o cl (tT s xo) s fT fU (tX s xo) uo)
    (T2 := Tw w0 p b r ad n p' b' k GT vT k GU vU o cl (tT s xo) (tT s xo) fT fU (tX s xo) (uX s uo)) h hl hy c hj P.len h1 h2
    (fun h K => h.below K) (fun h => ⟨h.hsO ho, (h.rsO ho).us⟩) (fun h K => h.stepO ho K) (fun h => h.rsO ho) (fun h K => h.stepOU ho K)
    (fun h => ⟨h.hsO ho, h.rsO ho⟩) (fun h K => h.below K)
    (fun w' h => ⟨cl, _, _, _, _, _, h, P.stepO, c.next _⟩)
/-- What is loaded ahead of an owner's next task. -/
abbrev Ct (r q0 vb vo : Nat) (ad n : Int) (vn vc m z : Nat) (w : World) : Prop :=
  (w.cell? ⟨r, 0, none⟩ = some (.int .i64 ad) ∧ w.cell? ⟨r, 1, none⟩ = some (.int .i64 n)) ∧ (w.cell? ⟨q0, 2, none⟩ = some (.slice (some ⟨vb, vo, none⟩) vn vc) ∧ w.cell? ⟨vb, vo + m, none⟩ = some (.int .u8 (z : Int)))
theorem Nx.ct {q0 vb vo vn vc m z : Nat} {c : Cs} (H : Nx w0 p b r ad n p' b' k GT vT GU vU L o j w) (B : Bx w0 q0 c) (e1 : (Value.slice c.vq c.vn c.vc) = .slice (some ⟨vb, vo, none⟩) vn vc) (hb : vb < w0.heap.size) (hv : w0.cell? ⟨vb, vo + m, none⟩ = some (.int .u8 (z : Int))) : Ct r q0 vb vo ad n vn vc m z w := by
  have b2 := (B.below H.bel).c2
  rw [e1] at b2
  exact ⟨H.deq.1, b2, (H.bel.cell (p := ⟨vb, vo + m, none⟩) hb).trans hv⟩
/-- An owner's next task. -/
theorem nx_task (q : QOk ad n) (z : Nat) (hz : z < 256) (m : Nat) (hm : m ≤ 20) {w' : World} (H : Nx w0 p b r ad n p' b' k GT vT GU vU L o j w') :
    Calls Try.prog 15 #[.agg #[.int .i64 ad, .int .i64 n], .int .u8 (z : Int), .int .i64 (m : Int)] w' fun e w'' => ∃ g g', e = .returned (.tuple #[.pointer (some ⟨g, 0, none⟩), .pointer (some ⟨g', 0, none⟩)]) ∧ Nx w0 p b r ad n p' b' k GT vT GU vU L (some (g, g')) j w'' := by
  obtain ⟨x, u, hxu, hT⟩ := task_new q z hz m (by omega) (by omega)
  refine (hT w').mono ?_
  rintro e w'' ⟨g, g', rfl, hx, hu, hne, hg, hg', K⟩
  obtain ⟨cl, s, fT, fU, xo, uo, h, P, c⟩ := H
  exact ⟨g, g', rfl, _, s, fT, fU, x, u, h.newO K hx hu hne hg hg', P.newO hxu, c⟩
/-- The two memories, and the deque's block. -/
theorem Tw.begin {w1 w2 : World} {ad n : Int} {L : Nat} {G1 G2 : Nat → Nat} {f1 : Nat → Tk} {f2 : Nat → Us} {x : Tk} {u : Us} (hM1 : IsMem 78 w1 (w0.heap.size + 1) w0.heap.size (List.replicate L 0) 0 0) (hB1 : Below w0.heap.size w0 w1) (hM2 : IsMem 58 w2 (w1.heap.size + 1) w1.heap.size (List.replicate L 0) 0 0) (hB2 : Below w1.heap.size w1 w2) :
    ∃ cl, Tw w0 (w0.heap.size + 1) w0.heap.size w2.heap.size ad n (w1.heap.size + 1) w1.heap.size 0 G1 (.slice none 0 0) 0 G2 (.slice none 0 0) none cl ⟨List.replicate L 0, 0, 0⟩ ⟨List.replicate L 0, 0, 0⟩ f1 f2 x u (w2.alloc (.cells #[.int .i64 ad, .int .i64 n] 34)) := by
  have l1 := hM1.lt
  have l2 := hM2.lt
  exact ⟨_, Tw.first ⟨(hM1.below hB2).below (below_alloc _ _), heap_alloc_new _ _, bel_trans (bel_trans hB1 hB2) (below_alloc _ _), by omega, by omega, by omega, by omega, by omega⟩ (hM2.below (below_alloc _ _)) (by omega) (by omega) ⟨by omega, by omega, by omega⟩ ⟨by omega, by omega, by omega⟩⟩
end
end Go.Proofs.Ytmglacaikpcjhaa
