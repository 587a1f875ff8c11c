/- The program's deque and the document's side by side: thieves, an owner, words; what is known of memory. Of no function; no conditions. -/
import Derived.Test.YtmglacaikpcjhaaY6
import Derived.Test.YtmglacaikpcjhaaK
namespace Go.Proofs.Ytmglacaikpcjhaa
open Go.RowKit

theorem But3.far {g p b q : Nat} {w w' : World} {cl : Nat → Nat} (K : But3 g p b w w') (hq : q < w.heap.size) (h1 : cl q ≠ cl g) (h2 : cl q ≠ cl p) (h3 : cl q ≠ cl b) : w'.heap[q]? = w.heap[q]? :=
  K.block q hq (fun e => h1 (congrArg cl e)) (fun e => h2 (congrArg cl e)) (fun e => h3 (congrArg cl e))

/-- Both systems; each block has the number of what it belongs to (cl): so they lie apart. -/
structure Tw (w0 : World) (p b r : Nat) (ad n : Int) (p' b' k : Nat) (GT : Nat → Nat) (vT : Value) (ku : Nat) (GU : Nat → Nat) (vU : Value) (o : Option (Nat × Nat)) (cl : Nat → Nat) (s s' : St) (fT : Nat → Tk) (fU : Nat → Us) (xo : Tk) (uo : Us) (w : World) : Prop where
  kn : Kn w0 p b r ad n w s
  ft : Fam 36 88 tkC w0.heap.size w k GT fT vT
  rm : Mem 58 w p' b' s'
  fu : Fam 42 44 usC w0.heap.size w ku GU fU vU
  oo : ∀ g g', o = some (g, g') → (IsTk w g xo ∧ IsUs w g' uo) ∧ (w0.heap.size ≤ g ∧ w0.heap.size ≤ g') ∧ (cl g = 4 ∧ cl g' = 7)
  p0 : w0.heap.size ≤ p'
  b0 : w0.heap.size ≤ b'
  lp : cl p = 1
  lb : cl b = 1
  lr : cl r = 2
  lt : ∀ q, InF k GT vT q → cl q = 3
  lp' : cl p' = 5
  lb' : cl b' = 5
  lu : ∀ q, InF ku GU vU q → cl q = 6
section
variable {w0 w w' : World} {p b r : Nat} {ad n : Int} {p' b' k : Nat} {GT : Nat → Nat} {vT : Value} {ku : Nat} {GU : Nat → Nat} {vU : Value} {o : Option (Nat × Nat)} {cl : Nat → Nat} {s s' s1 : St} {fT : Nat → Tk} {fU : Nat → Us} {xo : Tk} {uo : Us}

theorem Tw.below (H : Tw w0 p b r ad n p' b' k GT vT ku GU vU o cl s s' fT fU xo uo w) (K : Below w.heap.size w w') : Tw w0 p b r ad n p' b' k GT vT ku GU vU o cl s s' fT fU xo uo w' :=
  { H with kn := H.kn.below K, ft := H.ft.below K, rm := H.rm.below K, fu := H.fu.below K, oo := fun g g' e => ⟨⟨(H.oo g g' e).1.1.below K, (H.oo g g' e).1.2.below K⟩, (H.oo g g' e).2⟩ }
/-- What belongs to neither c1 nor c2 is kept. -/
theorem Tw.knK (H : Tw w0 p b r ad n p' b' k GT vT ku GU vU o cl s s' fT fU xo uo w) {c1 c2 : Nat} (kf : ∀ q, q < w.heap.size → cl q ≠ c1 → cl q ≠ c2 → w'.heap[q]? = w.heap[q]?) (hb : Below w0.heap.size w0 w') (e1 : 1 ≠ c1 ∧ 1 ≠ c2) (e2 : 2 ≠ c1 ∧ 2 ≠ c2) : Kn w0 p b r ad n w' s := by
  have l := H.kn.mem.lt
  exact { H.kn with mem := H.kn.mem.keep (kf p l.1 (by rw [H.lp]; exact e1.1) (by rw [H.lp]; exact e1.2)) (kf b l.2 (by rw [H.lb]; exact e1.1) (by rw [H.lb]; exact e1.2)), deq := (kf r (lt_of_block H.kn.deq) (by rw [H.lr]; exact e2.1) (by rw [H.lr]; exact e2.2)).trans H.kn.deq, bel := hb }
theorem Tw.rmK (H : Tw w0 p b r ad n p' b' k GT vT ku GU vU o cl s s' fT fU xo uo w) {c1 c2 : Nat} (kf : ∀ q, q < w.heap.size → cl q ≠ c1 → cl q ≠ c2 → w'.heap[q]? = w.heap[q]?) (e1 : 5 ≠ c1 ∧ 5 ≠ c2) : Mem 58 w' p' b' s' := by
  have l := H.rm.lt
  exact H.rm.keep (kf p' l.1 (by rw [H.lp']; exact e1.1) (by rw [H.lp']; exact e1.2)) (kf b' l.2 (by rw [H.lb']; exact e1.1) (by rw [H.lb']; exact e1.2))
theorem Tw.ftK (H : Tw w0 p b r ad n p' b' k GT vT ku GU vU o cl s s' fT fU xo uo w) {c1 c2 : Nat} (kf : ∀ q, q < w.heap.size → cl q ≠ c1 → cl q ≠ c2 → w'.heap[q]? = w.heap[q]?) (e1 : 3 ≠ c1 ∧ 3 ≠ c2) : Fam 36 88 tkC w0.heap.size w' k GT fT vT :=
  H.ft.keep fun q hq => kf q (H.ft.lt hq).1 (by rw [H.lt q hq]; exact e1.1) (by rw [H.lt q hq]; exact e1.2)
theorem Tw.fuK (H : Tw w0 p b r ad n p' b' k GT vT ku GU vU o cl s s' fT fU xo uo w) {c1 c2 : Nat} (kf : ∀ q, q < w.heap.size → cl q ≠ c1 → cl q ≠ c2 → w'.heap[q]? = w.heap[q]?) (e1 : 6 ≠ c1 ∧ 6 ≠ c2) : Fam 42 44 usC w0.heap.size w' ku GU fU vU :=
  H.fu.keep fun q hq => kf q (H.fu.lt hq).1 (by rw [H.lu q hq]; exact e1.1) (by rw [H.lu q hq]; exact e1.2)
theorem Tw.oxK (H : Tw w0 p b r ad n p' b' k GT vT ku GU vU o cl s s' fT fU xo uo w) {c1 c2 : Nat} (kf : ∀ q, q < w.heap.size → cl q ≠ c1 → cl q ≠ c2 → w'.heap[q]? = w.heap[q]?) (e1 : 4 ≠ c1 ∧ 4 ≠ c2) {g g' : Nat} (e : o = some (g, g')) : IsTk w' g xo := by
  obtain ⟨⟨h1, _⟩, _, h4, _⟩ := H.oo g g' e
  exact h1.keep (kf g h1.lt (by rw [h4]; exact e1.1) (by rw [h4]; exact e1.2))
theorem Tw.ouK (H : Tw w0 p b r ad n p' b' k GT vT ku GU vU o cl s s' fT fU xo uo w) {c1 c2 : Nat} (kf : ∀ q, q < w.heap.size → cl q ≠ c1 → cl q ≠ c2 → w'.heap[q]? = w.heap[q]?) (e1 : 7 ≠ c1 ∧ 7 ≠ c2) {g g' : Nat} (e : o = some (g, g')) : IsUs w' g' uo := by
  obtain ⟨⟨_, h1⟩, _, _, h4⟩ := H.oo g g' e
  exact h1.keep (kf g' h1.lt (by rw [h4]; exact e1.1) (by rw [h4]; exact e1.2))

theorem Tw.stepT (H : Tw w0 p b r ad n p' b' k GT vT ku GU vU o cl s s' fT fU xo uo w) {i : Nat} (hi : i < k) {x : Tk} (K : Hs w' p b (GT i) s1 x ∧ But3 (GT i) p b w w') : Tw w0 p b r ad n p' b' k GT vT ku GU vU o cl s1 s' (put fT i x) fU xo uo w' := by
  have cG : cl (GT i) = 3 := H.lt _ (Or.inl ⟨i, hi, rfl⟩)
  have kf : ∀ q, q < w.heap.size → cl q ≠ 3 → cl q ≠ 1 → w'.heap[q]? = w.heap[q]? := fun q hq h3 h1 => K.2.far (cl := cl) hq (by rw [cG]; exact h3) (by rw [H.lp]; exact h1) (by rw [H.lb]; exact h1)
  have hb := K.2.bel H.kn.bel (H.ft.G0 i hi) H.kn.p0 H.kn.b0
  exact { H with
    kn := { H.kn with mem := K.1.mem, deq := (kf r (lt_of_block H.kn.deq) (by rw [H.lr]; decide) (by rw [H.lr]; decide)).trans H.kn.deq, bel := hb }
    ft := H.ft.step hi K.1.tk fun q hq hne => K.2.block q (H.ft.lt hq).1 hne (fun e => by have := H.lt q hq; rw [e, H.lp] at this; omega) (fun e => by have := H.lt q hq; rw [e, H.lb] at this; omega)
    rm := H.rmK kf (by decide)
    fu := H.fuK kf (by decide)
    oo := fun g g' e => ⟨⟨H.oxK kf (by decide) e, H.ouK kf (by decide) e⟩, (H.oo g g' e).2⟩ }
theorem Tw.stepO (H : Tw w0 p b r ad n p' b' k GT vT ku GU vU o cl s s' fT fU xo uo w) {g g' : Nat} (ho : o = some (g, g')) {x : Tk} (K : Hs w' p b g s1 x ∧ But3 g p b w w') : Tw w0 p b r ad n p' b' k GT vT ku GU vU o cl s1 s' fT fU x uo w' := by
  obtain ⟨_, ⟨hg0, _⟩, cG, _⟩ := H.oo g g' ho
  have kf : ∀ q, q < w.heap.size → cl q ≠ 4 → cl q ≠ 1 → w'.heap[q]? = w.heap[q]? := fun q hq h3 h1 => K.2.far (cl := cl) hq (by rw [cG]; exact h3) (by rw [H.lp]; exact h1) (by rw [H.lb]; exact h1)
  have hb := K.2.bel H.kn.bel hg0 H.kn.p0 H.kn.b0
  exact { H with
    kn := { H.kn with mem := K.1.mem, deq := (kf r (lt_of_block H.kn.deq) (by rw [H.lr]; decide) (by rw [H.lr]; decide)).trans H.kn.deq, bel := hb }
    ft := H.ftK kf (by decide)
    rm := H.rmK kf (by decide)
    fu := H.fuK kf (by decide)
    oo := fun a a' e => by
      have e2 := e
      rw [ho] at e2
      obtain ⟨rfl, rfl⟩ := Prod.mk.inj (Option.some.inj e2)
      exact ⟨⟨K.1.tk, H.ouK kf (by decide) e⟩, (H.oo _ _ e).2⟩ }
theorem Tw.stepTU (H : Tw w0 p b r ad n p' b' k GT vT ku GU vU o cl s s' fT fU xo uo w) {i : Nat} (hi : i < ku) {x : Us} (K : Rs w' p' b' (GU i) s1 x ∧ But3 (GU i) p' b' w w') : Tw w0 p b r ad n p' b' k GT vT ku GU vU o cl s s1 fT (put fU i x) xo uo w' := by
  have cG : cl (GU i) = 6 := H.lu _ (Or.inl ⟨i, hi, rfl⟩)
  have kf : ∀ q, q < w.heap.size → cl q ≠ 6 → cl q ≠ 5 → w'.heap[q]? = w.heap[q]? := fun q hq h3 h1 => K.2.far (cl := cl) hq (by rw [cG]; exact h3) (by rw [H.lp']; exact h1) (by rw [H.lb']; exact h1)
  have hb := K.2.bel H.kn.bel (H.fu.G0 i hi) H.p0 H.b0
  exact { H with
    kn := H.knK kf hb (by decide) (by decide)
    ft := H.ftK kf (by decide)
    rm := K.1.mem
    fu := H.fu.step hi K.1.us fun q hq hne => K.2.block q (H.fu.lt hq).1 hne (fun e => by have := H.lu q hq; rw [e, H.lp'] at this; omega) (fun e => by have := H.lu q hq; rw [e, H.lb'] at this; omega)
    oo := fun g g' e => ⟨⟨H.oxK kf (by decide) e, H.ouK kf (by decide) e⟩, (H.oo g g' e).2⟩ }
theorem Tw.stepOU (H : Tw w0 p b r ad n p' b' k GT vT ku GU vU o cl s s' fT fU xo uo w) {g g' : Nat} (ho : o = some (g, g')) {x : Us} (K : Rs w' p' b' g' s1 x ∧ But3 g' p' b' w w') : Tw w0 p b r ad n p' b' k GT vT ku GU vU o cl s s1 fT fU xo x w' := by
  obtain ⟨_, ⟨_, hg0⟩, _, cG⟩ := H.oo g g' ho
  have kf : ∀ q, q < w.heap.size → cl q ≠ 7 → cl q ≠ 5 → w'.heap[q]? = w.heap[q]? := fun q hq h3 h1 => K.2.far (cl := cl) hq (by rw [cG]; exact h3) (by rw [H.lp']; exact h1) (by rw [H.lb']; exact h1)
  have hb := K.2.bel H.kn.bel hg0 H.p0 H.b0
  exact { H with
    kn := H.knK kf hb (by decide) (by decide)
    ft := H.ftK kf (by decide)
    rm := K.1.mem
    fu := H.fuK kf (by decide)
    oo := fun a a' e => by
      have e2 := e
      rw [ho] at e2
      obtain ⟨rfl, rfl⟩ := Prod.mk.inj (Option.some.inj e2)
      exact ⟨⟨H.oxK kf (by decide) e, K.1.us⟩, (H.oo _ _ e).2⟩ }

/-- What is new has a number of its own; what was there keeps its. -/
theorem Tw.newO (H : Tw w0 p b r ad n p' b' k GT vT ku GU vU o cl s s' fT fU xo uo w) (K : Below w.heap.size w w') {g g' : Nat} {x : Tk} {u : Us} (hx : IsTk w' g x) (hu : IsUs w' g' u) (hne : g ≠ g') (hg : w.heap.size ≤ g) (hg' : w.heap.size ≤ g') :
    Tw w0 p b r ad n p' b' k GT vT ku GU vU (some (g, g')) (fun q => if q < w.heap.size then cl q else if q = g then 4 else 7) s s' fT fU x u w' := by
  have H2 := H.below K
  have l := H.kn.mem.lt
  have l' := H.rm.lt
  have lr := lt_of_block H.kn.deq
  have hs := H.kn.bel.size
  exact { kn := H2.kn, ft := H2.ft, rm := H2.rm, fu := H2.fu, p0 := H.p0, b0 := H.b0
          oo := fun a a' e => by
            obtain ⟨rfl, rfl⟩ := Prod.mk.inj (Option.some.inj e)
            exact ⟨⟨hx, hu⟩, ⟨by omega, by omega⟩, by simp [Nat.not_lt.2 hg], by simp [Nat.not_lt.2 hg', hne.symm]⟩
          lp := by simp [l.1, H.lp]
          lb := by simp [l.2, H.lb]
          lr := by simp [lr, H.lr]
          lp' := by simp [l'.1, H.lp']
          lb' := by simp [l'.2, H.lb']
          lt := fun q hq => by simp [(H.ft.lt hq).1, H.lt q hq]
          lu := fun q hq => by simp [(H.fu.lt hq).1, H.lu q hq] }
theorem Kn.grown {w2 w3 : World} {row : Option Nat} (H : Kn w0 p b r ad n w2 s) (hgr : w2.grownBy w3 row) (hr : ∀ q, row = some q → q ≠ p ∧ q ≠ b ∧ q ≠ r ∧ w0.heap.size ≤ q) : Kn w0 p b r ad n w3 s := by
  have l := H.mem.lt
  exact { H with
    mem := H.mem.keep (hgr.block _ l.1 (fun e => (hr _ e.symm).1 rfl)) (hgr.block _ l.2 (fun e => (hr _ e.symm).2.1 rfl))
    deq := (hgr.block _ (lt_of_block H.deq) (fun e => (hr _ e.symm).2.2.1 rfl)).trans H.deq
    bel := H.bel.grown hgr H.bel.size (fun j e => (hr j e).2.2.2) }
theorem Tw.pushT {w2 w3 : World} {g : Nat} {v' : Value} {x : Tk} (H : Tw w0 p b r ad n p' b' k GT vT ku GU vU o cl s s' fT fU xo uo w) (K : Below w.heap.size w w2) (hg : w.heap.size ≤ g) (hW : IsTk w2 g x)
    (hown : w3.ownsRow w0.heap.size 36 1 v' (k + 1) (ptrs k GT ++ [ptr g])) (hgr : w2.grownBy w3 vT.ownBlock) (hv : v'.ownBlock = vT.ownBlock ∨ v'.ownBlock = some w2.heap.size) :
    Tw w0 p b r ad n p' b' (k + 1) (put GT k g) v' ku GU vU o (fun q => if q < w.heap.size then cl q else 3) s s' (put fT k x) fU xo uo w3 := by
  have H2 := H.below K
  have ks := K.size
  have l := H.kn.mem.lt
  have l' := H.rm.lt
  have lr := lt_of_block H.kn.deq
  have row : ∀ q, vT.ownBlock = some q → cl q = 3 := fun q e => H.lt q (Or.inr e)
  have kf : ∀ q, q < w.heap.size → cl q ≠ 3 → w3.heap[q]? = w2.heap[q]? := fun q hq h3 => hgr.block q (by omega) (fun e => h3 (row q e.symm))
  have ne : ∀ {q a c : Nat}, cl q = a → cl c = 3 → a ≠ 3 → c ≠ q := fun h1 h2 h3 e => h3 (by rw [← h1, ← e]; exact h2)
  exact { p0 := H.p0, b0 := H.b0
          kn := H2.kn.grown hgr (fun q e => ⟨ne H.lp (row q e) (by decide), ne H.lb (row q e) (by decide), ne H.lr (row q e) (by decide), (own_lt H.ft.own e).2⟩)
          ft := H.ft.push K hg H.kn.bel.size hW hown hgr hv
          rm := H2.rm.keep (kf p' l'.1 (by rw [H.lp']; decide)) (kf b' l'.2 (by rw [H.lb']; decide))
          fu := H2.fu.keep fun q hq => kf q (H.fu.lt hq).1 (by rw [H.lu q hq]; decide)
          oo := fun a a' e => by
            obtain ⟨⟨h1, h2⟩, h3, h4, h5⟩ := H.oo a a' e
            have ha := h1.lt
            have ha' := h2.lt
            exact ⟨⟨(h1.below K).keep (kf a ha (by rw [h4]; decide)), (h2.below K).keep (kf a' ha' (by rw [h5]; decide))⟩, h3, by simp [ha, h4], by simp [ha', h5]⟩
          lp := by simp [l.1, H.lp]
          lb := by simp [l.2, H.lb]
          lr := by simp [lr, H.lr]
          lp' := by simp [l'.1, H.lp']
          lb' := by simp [l'.2, H.lb']
          lt := fun q hq => by
            rcases inF_push hv hq with h | h | h
            · simp [(H.ft.lt h).1, H.lt q h]
            · simp [show ¬ q < w.heap.size by omega]
            · simp [show ¬ q < w.heap.size by omega]
          lu := fun q hq => by simp [(H.fu.lt hq).1, H.lu q hq] }
theorem Tw.pushU {w2 w3 : World} {g : Nat} {v' : Value} {x : Us} (H : Tw w0 p b r ad n p' b' k GT vT ku GU vU o cl s s' fT fU xo uo w) (K : Below w.heap.size w w2) (hg : w.heap.size ≤ g) (hW : IsUs w2 g x)
    (hown : w3.ownsRow w0.heap.size 42 1 v' (ku + 1) (ptrs ku GU ++ [ptr g])) (hgr : w2.grownBy w3 vU.ownBlock) (hv : v'.ownBlock = vU.ownBlock ∨ v'.ownBlock = some w2.heap.size) :
    Tw w0 p b r ad n p' b' k GT vT (ku + 1) (put GU ku g) v' o (fun q => if q < w.heap.size then cl q else 6) s s' fT (put fU ku x) xo uo w3 := by
  have H2 := H.below K
  have ks := K.size
  have l := H.kn.mem.lt
  have l' := H.rm.lt
  have lr := lt_of_block H.kn.deq
  have row : ∀ q, vU.ownBlock = some q → cl q = 6 := fun q e => H.lu q (Or.inr e)
  have kf : ∀ q, q < w.heap.size → cl q ≠ 6 → w3.heap[q]? = w2.heap[q]? := fun q hq h3 => hgr.block q (by omega) (fun e => h3 (row q e.symm))
  have ne : ∀ {q a c : Nat}, cl q = a → cl c = 6 → a ≠ 6 → c ≠ q := fun h1 h2 h3 e => h3 (by rw [← h1, ← e]; exact h2)
  exact { p0 := H.p0, b0 := H.b0
          kn := H2.kn.grown hgr (fun q e => ⟨ne H.lp (row q e) (by decide), ne H.lb (row q e) (by decide), ne H.lr (row q e) (by decide), (own_lt H.fu.own e).2⟩)
          fu := H.fu.push K hg H.kn.bel.size hW hown hgr hv
          rm := H2.rm.keep (kf p' l'.1 (by rw [H.lp']; decide)) (kf b' l'.2 (by rw [H.lb']; decide))
          ft := H2.ft.keep fun q hq => kf q (H.ft.lt hq).1 (by rw [H.lt q hq]; decide)
          oo := fun a a' e => by
            obtain ⟨⟨h1, h2⟩, h3, h4, h5⟩ := H.oo a a' e
            have ha := h1.lt
            have ha' := h2.lt
            exact ⟨⟨(h1.below K).keep (kf a ha (by rw [h4]; decide)), (h2.below K).keep (kf a' ha' (by rw [h5]; decide))⟩, h3, by simp [ha, h4], by simp [ha', h5]⟩
          lp := by simp [l.1, H.lp]
          lb := by simp [l.2, H.lb]
          lr := by simp [lr, H.lr]
          lp' := by simp [l'.1, H.lp']
          lb' := by simp [l'.2, H.lb']
          lt := fun q hq => by simp [(H.ft.lt hq).1, H.lt q hq]
          lu := fun q hq => by
            rcases inF_push hv hq with h | h | h
            · simp [(H.fu.lt h).1, H.lu q h]
            · simp [show ¬ q < w.heap.size by omega]
            · simp [show ¬ q < w.heap.size by omega] }
theorem Tw.first {G1 G2 : Nat → Nat} {f1 : Nat → Tk} {f2 : Nat → Us} {x : Tk} {u : Us} (H : Kn w0 p b r ad n w s) (hM : Mem 58 w p' b' s') (h0 : w0.heap.size ≤ p') (h1 : w0.heap.size ≤ b') (hp : p' ≠ p ∧ p' ≠ b ∧ p' ≠ r) (hb : b' ≠ p ∧ b' ≠ b ∧ b' ≠ r) :
    Tw w0 p b r ad n p' b' 0 G1 (.slice none 0 0) 0 G2 (.slice none 0 0) none (fun q => if q = p ∨ q = b then 1 else if q = r then 2 else 5) s s' f1 f2 x u w := by
  have no : ∀ G q, ¬ InF 0 G (.slice none 0 0) q := by
    rintro G q (⟨i, hi, _⟩ | h)
    · omega
    · cases h
  exact { kn := H, ft := Fam.nil .., rm := hM, fu := Fam.nil .., p0 := h0, b0 := h1
          oo := fun g g' e => (by cases e)
          lp := by simp
          lb := by simp
          lr := by simp [H.rp, H.rb]
          lp' := by simp [hp.1, hp.2.1, hp.2.2]
          lb' := by simp [hb.1, hb.2.1, hb.2.2]
          lt := fun q hq => absurd hq (no _ q)
          lu := fun q hq => absurd hq (no _ q) }
theorem Tw.hsT (H : Tw w0 p b r ad n p' b' k GT vT ku GU vU o cl s s' fT fU xo uo w) {i : Nat} (hi : i < k) : Hs w p b (GT i) s (fT i) := by
  have c := H.lt _ (Or.inl ⟨i, hi, rfl⟩)
  exact ⟨H.kn.mem, H.ft.pr i hi, fun e => by rw [e, H.lp] at c; omega, fun e => by rw [e, H.lb] at c; omega⟩
theorem Tw.hsO (H : Tw w0 p b r ad n p' b' k GT vT ku GU vU o cl s s' fT fU xo uo w) {g g' : Nat} (ho : o = some (g, g')) : Hs w p b g s xo := by
  obtain ⟨⟨h1, _⟩, _, c, _⟩ := H.oo g g' ho
  exact ⟨H.kn.mem, h1, fun e => by rw [e, H.lp] at c; omega, fun e => by rw [e, H.lb] at c; omega⟩
theorem Tw.rsT (H : Tw w0 p b r ad n p' b' k GT vT ku GU vU o cl s s' fT fU xo uo w) {i : Nat} (hi : i < ku) : Rs w p' b' (GU i) s' (fU i) := by
  have c := H.lu _ (Or.inl ⟨i, hi, rfl⟩)
  exact ⟨H.rm, H.fu.pr i hi, fun e => by rw [e, H.lp'] at c; omega, fun e => by rw [e, H.lb'] at c; omega⟩
theorem Tw.rsO (H : Tw w0 p b r ad n p' b' k GT vT ku GU vU o cl s s' fT fU xo uo w) {g g' : Nat} (ho : o = some (g, g')) : Rs w p' b' g' s' uo := by
  obtain ⟨⟨_, h1⟩, _, _, c⟩ := H.oo g g' ho
  exact ⟨H.rm, h1, fun e => by rw [e, H.lp'] at c; omega, fun e => by rw [e, H.lb'] at c; omega⟩
end
end Go.Proofs.Ytmglacaikpcjhaa
