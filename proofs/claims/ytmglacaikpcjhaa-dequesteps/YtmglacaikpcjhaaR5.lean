/- What the document's answer for layer 7 tells of a task's step, and what it leaves. Conditions: the deque is one that can be; the counts are below 2^62. -/
import Derived.Test.YtmglacaikpcjhaaR3P
import Derived.Test.YtmglacaikpcjhaaR3G
import Derived.Test.YtmglacaikpcjhaaR3S
import Derived.Test.YtmglacaikpcjhaaR4P
import Derived.Test.YtmglacaikpcjhaaR4G
import Derived.Test.YtmglacaikpcjhaaR4S
namespace Go.Proofs.Ytmglacaikpcjhaa
open Go.RowKit

/-- The document's words, and a task. -/
structure Rs (w : World) (p b g : Nat) (s : St) (u : Us) : Prop where
  mem : Mem 58 w p b s
  us : IsUs w g u
  gp : g ≠ p
  gb : g ≠ b
theorem Rs.below {w w' : World} {p b g : Nat} {s : St} {u : Us} (h : Rs w p b g s u) (k : Below w.heap.size w w') : Rs w' p b g s u := ⟨h.mem.below k, h.us.below k, h.gp, h.gb⟩
theorem us_fin {w w3 w' : World} {p b g : Nat} {s : St} {u u' : Us} {o : Obj} (h : Rs w3 p b g s u) (hb : But3 g p b w w3) (h1 : IsUs w' g u') (h2 : But g g (w3.alloc o) w') : Rs w' p b g s u' ∧ But3 g p b w w' :=
  ⟨⟨(h.mem.below (below_alloc _ _)).but h2 h.gp.symm h.gp.symm h.gb.symm h.gb.symm, h1, h.gp, h.gb⟩, (hb.trans (But3.of_below (below_alloc _ _))).trans (But3.of_one h2)⟩
set_option maxHeartbeats 400000 in
theorem us_done {w : World} {p b g : Nat} {s : St} {u : Us} (h : Rs w p b g s u) (hd : u.dn = true) :
    Calls Try.prog 19 #[.pointer (some ⟨g, 0, none⟩), .pointer (some ⟨p, 0, none⟩)] w fun e w' => e = .returned (.bool true) ∧ w' = w := by
  have c8 := h.us.uc.c8
  rw [hd] at c8
  clear h
  go_enter Try.func19, Try.ntmps19
  go_wp2
  go_ret
  exact ⟨rfl, rfl⟩

set_option maxRecDepth 100000 in
set_option maxHeartbeats 1000000 in
theorem ue {w : World} {p b g : Nat} {s s' : St} {a : Ac} {u : Us} {rv re : Int} {ro : Bool} (h : Rs w p b g s u) (hd : u.dn = false) (he : (re != 0) = true)
    (hN : Calls Try.prog 17 #[.pointer (some ⟨g, 0, none⟩)] w fun e w' => e = .returned (acV a) ∧ Below w.heap.size w w')
    (hA : ∀ {w' : World}, Mem 58 w' p b s → Calls Try.prog 39 #[.pointer (some ⟨p, 0, none⟩), acV a] w' fun e w'' => e = .returned (reV ⟨rv, ro, re⟩) ∧ Turns 58 p b w' w'' s') :
    Calls Try.prog 19 #[.pointer (some ⟨g, 0, none⟩), .pointer (some ⟨p, 0, none⟩)] w fun e w' => e = .returned (.bool true) ∧ Rs w' p b g s' { u with dn := true, hs := false } ∧ But3 g p b w w' := by
  have HH := hid h
  have HN := hid hN
  have HA : Hid (∀ {w' : World}, Mem 58 w' p b s → Calls Try.prog 39 #[.pointer (some ⟨p, 0, none⟩), acV a] w' fun e w'' => e = .returned (reV ⟨rv, ro, re⟩) ∧ Turns 58 p b w' w'' s') := hid (fun h' => hA h')
  have c8 := h.us.uc.c8
  rw [hd] at c8
  clear h hN hA hd
  obtain ⟨ak, aad, aa, ab⟩ := a
  go_enter Try.func19, Try.ntmps19
  go_wp2_with fail
  refine HN.out.mono ?_
  rintro e w2 ⟨rfl, K2⟩
  have H2 := hid (HH.out.below K2)
  have HB := hid K2
  clear K2 HN c8
  go_wp2_with fail
  refine (HA.out H2.out.mem).mono ?_
  rintro e w3 ⟨rfl, T⟩
  have h3 : Rs w3 p b g s' u := ⟨T.1, H2.out.us.keep (T.2.block _ H2.out.us.lt H2.out.gp H2.out.gb), H2.out.gp, H2.out.gb⟩
  have H3 := hid h3
  have HB3 : Hid (But3 g p b w w3) := hid ((But3.of_below HB.out).trans (But3.of_but T.2))
  clear T h3 HB H2 HA HH
  go_wp2_with fail
  refine (uend_at (H3.out.us.below (below_alloc _ _)) false).mono ?_
  rintro e w4 ⟨rfl, h4, B4⟩
  have H4 := hid h4
  have HB4 := hid B4
  clear h4 B4
  go_wp2
  go_ret
  exact ⟨rfl, us_fin H3.out HB3.out H4.out HB4.out⟩

set_option maxRecDepth 100000 in
set_option maxHeartbeats 1000000 in
theorem us_k0 {w : World} {p b g : Nat} {s s' : St} {a : Ac} {u u' : Us} {rv : Int} {ro : Bool} (h : Rs w p b g s u) (hd : u.dn = false) (hk : u.kd = 0)
    (hN : Calls Try.prog 17 #[.pointer (some ⟨g, 0, none⟩)] w fun e w' => e = .returned (acV a) ∧ Below w.heap.size w w')
    (hA : ∀ {w' : World}, Mem 58 w' p b s → Calls Try.prog 39 #[.pointer (some ⟨p, 0, none⟩), acV a] w' fun e w'' => e = .returned (reV ⟨rv, ro, 0⟩) ∧ Turns 58 p b w' w'' s')
    (hG : ∀ {w' : World}, IsUs w' g u → Calls Try.prog 41 #[.pointer (some ⟨g, 0, none⟩), .int .u64 rv] w' fun e w'' => e = .returned (.tuple #[]) ∧ IsUs w'' g u' ∧ But g g w' w'') :
    Calls Try.prog 19 #[.pointer (some ⟨g, 0, none⟩), .pointer (some ⟨p, 0, none⟩)] w fun e w' => e = .returned (.bool u'.dn) ∧ Rs w' p b g s' u' ∧ But3 g p b w w' := by
  have HH := hid h
  have HN := hid hN
  have HA : Hid (∀ {w' : World}, Mem 58 w' p b s → Calls Try.prog 39 #[.pointer (some ⟨p, 0, none⟩), acV a] w' fun e w'' => e = .returned (reV ⟨rv, ro, 0⟩) ∧ Turns 58 p b w' w'' s') := hid (fun h' => hA h')
  have c8 := h.us.uc.c8
  rw [hd] at c8
  clear h hN hA hd
  obtain ⟨ak, aad, aa, ab⟩ := a
  have HG : Hid (∀ {w' : World}, IsUs w' g u → Calls Try.prog 41 #[.pointer (some ⟨g, 0, none⟩), .int .u64 rv] w' fun e w'' => e = .returned (.tuple #[]) ∧ IsUs w'' g u' ∧ But g g w' w'') := hid (fun h' => hG h')
  have HK := hid hk
  clear hG hk
  go_enter Try.func19, Try.ntmps19
  go_wp2_with fail
  refine HN.out.mono ?_
  rintro e w2 ⟨rfl, K2⟩
  have H2 := hid (HH.out.below K2)
  have HB := hid K2
  clear K2 HN c8
  go_wp2_with fail
  refine (HA.out H2.out.mem).mono ?_
  rintro e w3 ⟨rfl, T⟩
  have h3 : Rs w3 p b g s' u := ⟨T.1, H2.out.us.keep (T.2.block _ H2.out.us.lt H2.out.gp H2.out.gb), H2.out.gp, H2.out.gb⟩
  have H3 := hid h3
  have HB3 : Hid (But3 g p b w w3) := hid ((But3.of_below HB.out).trans (But3.of_but T.2))
  have c2 := h3.us.uc.c2
  rw [HK.out] at c2
  have hlt3 := h3.us.lt
  clear T h3 HB H2 HA HH
  have hne3 : g ≠ w3.heap.size := by omega
  go_wp2_with fail
  refine (HG.out (H3.out.us.below (below_alloc _ _))).mono ?_
  rintro e w4 ⟨rfl, h4, B4⟩
  have H4 := hid h4
  have HB4 := hid B4
  have d8 := h4.uc.c8
  clear h4 B4 c2
  go_wp2
  go_ret
  exact ⟨rfl, us_fin H3.out HB3.out H4.out HB4.out⟩

set_option maxRecDepth 100000 in
set_option maxHeartbeats 1000000 in
theorem us_k1 {w : World} {p b g : Nat} {s s' : St} {a : Ac} {u u' : Us} {rv : Int} {ro : Bool} (h : Rs w p b g s u) (hd : u.dn = false) (hk : u.kd = 1)
    (hN : Calls Try.prog 17 #[.pointer (some ⟨g, 0, none⟩)] w fun e w' => e = .returned (acV a) ∧ Below w.heap.size w w')
    (hA : ∀ {w' : World}, Mem 58 w' p b s → Calls Try.prog 39 #[.pointer (some ⟨p, 0, none⟩), acV a] w' fun e w'' => e = .returned (reV ⟨rv, ro, 0⟩) ∧ Turns 58 p b w' w'' s')
    (hG : ∀ {w' : World}, IsUs w' g u → Calls Try.prog 42 #[.pointer (some ⟨g, 0, none⟩), .int .u64 rv, .bool ro] w' fun e w'' => e = .returned (.tuple #[]) ∧ IsUs w'' g u' ∧ But g g w' w'') :
    Calls Try.prog 19 #[.pointer (some ⟨g, 0, none⟩), .pointer (some ⟨p, 0, none⟩)] w fun e w' => e = .returned (.bool u'.dn) ∧ Rs w' p b g s' u' ∧ But3 g p b w w' := by
  have HH := hid h
  have HN := hid hN
  have HA : Hid (∀ {w' : World}, Mem 58 w' p b s → Calls Try.prog 39 #[.pointer (some ⟨p, 0, none⟩), acV a] w' fun e w'' => e = .returned (reV ⟨rv, ro, 0⟩) ∧ Turns 58 p b w' w'' s') := hid (fun h' => hA h')
  have c8 := h.us.uc.c8
  rw [hd] at c8
  clear h hN hA hd
  obtain ⟨ak, aad, aa, ab⟩ := a
  have HG : Hid (∀ {w' : World}, IsUs w' g u → Calls Try.prog 42 #[.pointer (some ⟨g, 0, none⟩), .int .u64 rv, .bool ro] w' fun e w'' => e = .returned (.tuple #[]) ∧ IsUs w'' g u' ∧ But g g w' w'') := hid (fun h' => hG h')
  have HK := hid hk
  clear hG hk
  go_enter Try.func19, Try.ntmps19
  go_wp2_with fail
  refine HN.out.mono ?_
  rintro e w2 ⟨rfl, K2⟩
  have H2 := hid (HH.out.below K2)
  have HB := hid K2
  clear K2 HN c8
  go_wp2_with fail
  refine (HA.out H2.out.mem).mono ?_
  rintro e w3 ⟨rfl, T⟩
  have h3 : Rs w3 p b g s' u := ⟨T.1, H2.out.us.keep (T.2.block _ H2.out.us.lt H2.out.gp H2.out.gb), H2.out.gp, H2.out.gb⟩
  have H3 := hid h3
  have HB3 : Hid (But3 g p b w w3) := hid ((But3.of_below HB.out).trans (But3.of_but T.2))
  have c2 := h3.us.uc.c2
  rw [HK.out] at c2
  have hlt3 := h3.us.lt
  clear T h3 HB H2 HA HH
  have hne3 : g ≠ w3.heap.size := by omega
  go_wp2_with fail
  refine (HG.out (H3.out.us.below (below_alloc _ _))).mono ?_
  rintro e w4 ⟨rfl, h4, B4⟩
  have H4 := hid h4
  have HB4 := hid B4
  have d8 := h4.uc.c8
  clear h4 B4 c2
  go_wp2
  go_ret
  exact ⟨rfl, us_fin H3.out HB3.out H4.out HB4.out⟩

set_option maxRecDepth 100000 in
set_option maxHeartbeats 1000000 in
theorem us_k2 {w : World} {p b g : Nat} {s s' : St} {a : Ac} {u u' : Us} {rv : Int} {ro : Bool} (h : Rs w p b g s u) (hd : u.dn = false) (hk : u.kd = 2)
    (hN : Calls Try.prog 17 #[.pointer (some ⟨g, 0, none⟩)] w fun e w' => e = .returned (acV a) ∧ Below w.heap.size w w')
    (hA : ∀ {w' : World}, Mem 58 w' p b s → Calls Try.prog 39 #[.pointer (some ⟨p, 0, none⟩), acV a] w' fun e w'' => e = .returned (reV ⟨rv, ro, 0⟩) ∧ Turns 58 p b w' w'' s')
    (hG : ∀ {w' : World}, IsUs w' g u → Calls Try.prog 43 #[.pointer (some ⟨g, 0, none⟩), .int .u64 rv, .bool ro] w' fun e w'' => e = .returned (.tuple #[]) ∧ IsUs w'' g u' ∧ But g g w' w'') :
    Calls Try.prog 19 #[.pointer (some ⟨g, 0, none⟩), .pointer (some ⟨p, 0, none⟩)] w fun e w' => e = .returned (.bool u'.dn) ∧ Rs w' p b g s' u' ∧ But3 g p b w w' := by
  have HH := hid h
  have HN := hid hN
  have HA : Hid (∀ {w' : World}, Mem 58 w' p b s → Calls Try.prog 39 #[.pointer (some ⟨p, 0, none⟩), acV a] w' fun e w'' => e = .returned (reV ⟨rv, ro, 0⟩) ∧ Turns 58 p b w' w'' s') := hid (fun h' => hA h')
  have c8 := h.us.uc.c8
  rw [hd] at c8
  clear h hN hA hd
  obtain ⟨ak, aad, aa, ab⟩ := a
  have HG : Hid (∀ {w' : World}, IsUs w' g u → Calls Try.prog 43 #[.pointer (some ⟨g, 0, none⟩), .int .u64 rv, .bool ro] w' fun e w'' => e = .returned (.tuple #[]) ∧ IsUs w'' g u' ∧ But g g w' w'') := hid (fun h' => hG h')
  have HK := hid hk
  clear hG hk
  go_enter Try.func19, Try.ntmps19
  go_wp2_with fail
  refine HN.out.mono ?_
  rintro e w2 ⟨rfl, K2⟩
  have H2 := hid (HH.out.below K2)
  have HB := hid K2
  clear K2 HN c8
  go_wp2_with fail
  refine (HA.out H2.out.mem).mono ?_
  rintro e w3 ⟨rfl, T⟩
  have h3 : Rs w3 p b g s' u := ⟨T.1, H2.out.us.keep (T.2.block _ H2.out.us.lt H2.out.gp H2.out.gb), H2.out.gp, H2.out.gb⟩
  have H3 := hid h3
  have HB3 : Hid (But3 g p b w w3) := hid ((But3.of_below HB.out).trans (But3.of_but T.2))
  have c2 := h3.us.uc.c2
  rw [HK.out] at c2
  have hlt3 := h3.us.lt
  clear T h3 HB H2 HA HH
  have hne3 : g ≠ w3.heap.size := by omega
  go_wp2_with fail
  refine (HG.out (H3.out.us.below (below_alloc _ _))).mono ?_
  rintro e w4 ⟨rfl, h4, B4⟩
  have H4 := hid h4
  have HB4 := hid B4
  have d8 := h4.uc.c8
  clear h4 B4 c2
  go_wp2
  go_ret
  exact ⟨rfl, us_fin H3.out HB3.out H4.out HB4.out⟩

/-- The next act of the document's task. -/
def uNext (u : Us) : Ac :=
  if u.dn = true then ⟨0, 0, 0, 0⟩
  else if u.kd = 0 then
    if u.tn = 0 then ⟨1, u.ad + 1, 0, 0⟩
    else if u.tn = 1 then ⟨1, u.ad, 0, 0⟩
    else if u.tn = 2 then ⟨2, slotA u.ad u.sz u.bt, u.v, 0⟩
    else ⟨2, u.ad + 1, add64 u.bt 1, 0⟩
  else if u.kd = 1 then
    if u.tn = 0 then ⟨1, u.ad + 1, 0, 0⟩
    else if u.tn = 1 then ⟨2, u.ad + 1, u.bt, 0⟩
    else if u.tn = 2 then ⟨1, u.ad, 0, 0⟩
    else if u.tn = 3 then ⟨1, slotA u.ad u.sz u.bt, 0, 0⟩
    else if u.tn = 4 then ⟨3, u.ad, u.tp, add64 u.tp 1⟩
    else ⟨2, u.ad + 1, add64 u.bt 1, 0⟩
  else
    if u.tn = 0 then ⟨1, u.ad, 0, 0⟩
    else if u.tn = 1 then ⟨1, u.ad + 1, 0, 0⟩
    else if u.tn = 2 then ⟨1, slotA u.ad u.sz u.tp, 0, 0⟩
    else ⟨3, u.ad, u.tp, add64 u.tp 1⟩
def uP (u : Us) (r : Re) : Us :=
  if u.tn = 0 then { u with bt := r.v, tn := 1 }
  else if u.tn = 1 then (if u.sz ≤ difA u.bt r.v then { u with dn := true, hs := false } else { u with tn := 2 })
  else if u.tn = 2 then { u with tn := 3 }
  else { u with tn := 4, dn := true, hs := true }
def uG (u : Us) (r : Re) : Us :=
  if u.tn = 0 then { u with bt := dec64 r.v, tn := 1 }
  else if u.tn = 1 then { u with tn := 2 }
  else if u.tn = 2 then (if 0 < difA r.v u.bt then { u with tp := r.v, tn := 5 } else { u with tp := r.v, tn := 3 })
  else if u.tn = 3 then (if difA u.tp u.bt < 0 then { u with v := r.v, tn := 4, dn := true, hs := true } else { u with v := r.v, tn := 4 })
  else if u.tn = 4 then { u with got := r.ok, tn := 5 }
  else { u with dn := true, hs := u.got }
def uS (u : Us) (r : Re) : Us :=
  if u.tn = 0 then { u with tp := r.v, tn := 1 }
  else if u.tn = 1 then (if 0 ≤ difA u.tp r.v then { u with tn := 2, dn := true, hs := false } else { u with tn := 2 })
  else if u.tn = 2 then { u with v := r.v, tn := 3 }
  else { u with tn := 4, dn := true, hs := r.ok }
def uGo (u : Us) (r : Re) : Us :=
  if r.e = 0 then (if u.kd = 0 then uP u r else if u.kd = 1 then uG u r else uS u r)
  else { u with dn := true, hs := false }
def uT (s : St) (u : Us) : St := if u.dn = true then s else doT s (uNext u)
def uX (s : St) (u : Us) : Us := if u.dn = true then u else uGo u (doR s (uNext u))

theorem uok_ad {ad sz kd v tn tp bt : Int} {got hs : Bool} (h : UOk ⟨ad, sz, kd, v, tn, tp, bt, got, false, hs⟩) :
    (kd = 0 ∧ (tn = 0 ∨ tn = 1 ∨ tn = 2 ∨ tn = 3)) ∨ (kd = 1 ∧ (tn = 0 ∨ tn = 1 ∨ tn = 2 ∨ tn = 3 ∨ tn = 4 ∨ tn = 5)) ∨ (kd = 2 ∧ (tn = 0 ∨ tn = 1 ∨ tn = 2 ∨ tn = 3)) := h.t rfl
theorem unext_at {w : World} {g : Nat} {u : Us} (h : IsUs w g u) (ok : UOk u) :
    Calls Try.prog 17 #[.pointer (some ⟨g, 0, none⟩)] w fun e w' => e = .returned (acV (uNext u)) ∧ Below w.heap.size w w' := by
  obtain ⟨ad, sz, kd, v, tn, tp, bt, got, dn, hs⟩ := u
  cases dn with
  | true => exact un_done h rfl
  | false =>
    rcases uok_ad ok with ⟨rfl, rfl | rfl | rfl | rfl⟩ | ⟨rfl, rfl | rfl | rfl | rfl | rfl | rfl⟩ | ⟨rfl, rfl | rfl | rfl | rfl⟩
    · exact unx0 h rfl rfl (fun h' => un_p0 h' ok)
    · exact unx0 h rfl rfl (fun h' => un_p1 h' ok)
    · exact unx0 h rfl rfl (fun h' => un_p2 h' ok)
    · exact unx0 h rfl rfl (fun h' => un_p3 h' ok)
    · exact unx1 h rfl rfl (fun h' => un_g0 h' ok)
    · exact unx1 h rfl rfl (fun h' => un_g1 h' ok)
    · exact unx1 h rfl rfl (fun h' => un_g2 h' ok)
    · exact unx1 h rfl rfl (fun h' => un_g3 h' ok)
    · exact unx1 h rfl rfl (fun h' => un_g4 h' ok)
    · exact unx1 h rfl rfl (fun h' => un_g5 h' ok)
    · exact unx2 h rfl rfl (fun h' => un_s0 h' ok)
    · exact unx2 h rfl rfl (fun h' => un_s1 h' ok)
    · exact unx2 h rfl rfl (fun h' => un_s2 h' ok)
    · exact unx2 h rfl rfl (fun h' => un_s3 h' ok)

theorem ugo_0 {w : World} {g : Nat} {ad sz v tn tp bt rv : Int} {got hs ro : Bool} (h : IsUs w g ⟨ad, sz, 0, v, tn, tp, bt, got, false, hs⟩) (ht : tn = 0 ∨ tn = 1 ∨ tn = 2 ∨ tn = 3) :
    Calls Try.prog 41 #[.pointer (some ⟨g, 0, none⟩), .int .u64 rv] w fun e w' => e = .returned (.tuple #[]) ∧ IsUs w' g (uP ⟨ad, sz, 0, v, tn, tp, bt, got, false, hs⟩ ⟨rv, ro, 0⟩) ∧ But g g w w' := by
  rcases ht with rfl | rfl | rfl | rfl
  · exact pu0 h
  · by_cases hc : sz ≤ difA bt rv
    · have := pu1y h hc
      simpa [uP, hc] using this
    · have := pu1n h hc
      simpa [uP, hc] using this
  · exact pu2 h
  · exact pu3 h
theorem ugo_1 {w : World} {g : Nat} {ad sz v tn tp bt rv : Int} {got hs ro : Bool} (h : IsUs w g ⟨ad, sz, 1, v, tn, tp, bt, got, false, hs⟩) (ht : tn = 0 ∨ tn = 1 ∨ tn = 2 ∨ tn = 3 ∨ tn = 4 ∨ tn = 5) :
    Calls Try.prog 42 #[.pointer (some ⟨g, 0, none⟩), .int .u64 rv, .bool ro] w fun e w' => e = .returned (.tuple #[]) ∧ IsUs w' g (uG ⟨ad, sz, 1, v, tn, tp, bt, got, false, hs⟩ ⟨rv, ro, 0⟩) ∧ But g g w w' := by
  rcases ht with rfl | rfl | rfl | rfl | rfl | rfl
  · exact po0 h
  · exact po1 h
  · by_cases hc : 0 < difA rv bt
    · have := po2y (ro := ro) h hc
      simpa [uG, hc] using this
    · have := po2n (ro := ro) h hc
      simpa [uG, hc] using this
  · by_cases hc : difA tp bt < 0
    · have := po3y (rv := rv) (ro := ro) h hc
      simpa [uG, hc] using this
    · have := po3n (rv := rv) (ro := ro) h hc
      simpa [uG, hc] using this
  · exact po4 h
  · exact po5 h
theorem ugo_2 {w : World} {g : Nat} {ad sz v tn tp bt rv : Int} {got hs ro : Bool} (h : IsUs w g ⟨ad, sz, 2, v, tn, tp, bt, got, false, hs⟩) (ht : tn = 0 ∨ tn = 1 ∨ tn = 2 ∨ tn = 3) :
    Calls Try.prog 43 #[.pointer (some ⟨g, 0, none⟩), .int .u64 rv, .bool ro] w fun e w' => e = .returned (.tuple #[]) ∧ IsUs w' g (uS ⟨ad, sz, 2, v, tn, tp, bt, got, false, hs⟩ ⟨rv, ro, 0⟩) ∧ But g g w w' := by
  rcases ht with rfl | rfl | rfl | rfl
  · exact st0 h
  · by_cases hc : 0 ≤ difA tp rv
    · have := st1y (ro := ro) h hc
      simpa [uS, hc] using this
    · have := st1n (ro := ro) h hc
      simpa [uS, hc] using this
  · exact st2 h
  · exact st3 h

theorem ustep_at {w : World} {p b g : Nat} {s : St} {u : Us} {k : Nat} (h : Rs w p b g s u) (ok : UOk u) (c : Cnt s k) (hk : k ≤ bnd) :
    Calls Try.prog 19 #[.pointer (some ⟨g, 0, none⟩), .pointer (some ⟨p, 0, none⟩)] w fun e w' => e = .returned (.bool (uX s u).dn) ∧ Rs w' p b g (uT s u) (uX s u) ∧ But3 g p b w w' := by
  by_cases hd : u.dn = true
  · have e1 : uX s u = u := by rw [uX, if_pos hd]
    have e2 : uT s u = s := by rw [uT, if_pos hd]
    rw [e1, e2, hd]
    refine (us_done h hd).mono ?_
    rintro e w' ⟨rfl, rfl⟩
    exact ⟨rfl, h, But3.of_below (Below.refl _ _)⟩
  · have e1 : uX s u = uGo u (doR s (uNext u)) := by rw [uX, if_neg hd]
    have e2 : uT s u = doT s (uNext u) := by rw [uT, if_neg hd]
    rw [e1, e2]
    have hN := unext_at h.us ok
    have hA : ∀ {w' : World}, Mem 58 w' p b s → Calls Try.prog 39 #[.pointer (some ⟨p, 0, none⟩), acV (uNext u)] w' fun e w'' => e = .returned (reV (doR s (uNext u))) ∧ Turns 58 p b w' w'' (doT s (uNext u)) := fun hm => rdo_at hm c hk (uNext u)
    generalize uNext u = a at *
    generalize doT s a = s' at *
    generalize doR s a = r at *
    obtain ⟨rv, ro, re⟩ := r
    obtain ⟨ad, sz, kd, v, tn, tp, bt, got, dn, hs⟩ := u
    have hdf : dn = false := by simpa using hd
    subst hdf
    by_cases he : re = 0
    · subst he
      rcases uok_ad ok with ⟨rfl, ht⟩ | ⟨rfl, ht⟩ | ⟨rfl, ht⟩
      · exact us_k0 h rfl rfl hN hA (fun h' => ugo_0 (ro := ro) h' ht)
      · exact us_k1 h rfl rfl hN hA (fun h' => ugo_1 h' ht)
      · exact us_k2 h rfl rfl hN hA (fun h' => ugo_2 h' ht)
    · have e3 : uGo ⟨ad, sz, kd, v, tn, tp, bt, got, false, hs⟩ ⟨rv, ro, re⟩ = ⟨ad, sz, kd, v, tn, tp, bt, got, true, false⟩ := by simp [uGo, he]
      rw [e3]
      exact ue h rfl (by simpa using he) hN hA
end Go.Proofs.Ytmglacaikpcjhaa
