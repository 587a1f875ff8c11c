/- That EpochLate returns true, for every script of calls; nothing that lay before is changed. No conditions. -/
import Derived.Test.YthiicngnhnglfaaSc
import Derived.Laws.BitsLemmas
import Derived.BigQuiet
import Derived.Deep.CutRange
import Derived.Deep.CutBlock
namespace Go.Proofs.Ythiicngnhnglfaa
open Go.RowKit

theorem i64_and3 (n : Int) : bits .and .i64 n 3 = n % 4 := by
  have h3 : (BitVec.ofInt 64 3).toNat = 2 ^ 2 - 1 := by decide
  have key : (BitVec.ofInt 64 n &&& BitVec.ofInt 64 3).toNat = (n % ((2 ^ 64 : Nat) : Int)).toNat % 2 ^ 2 := by
    rw [BitVec.toNat_and, BitVec.toNat_ofInt, h3, Nat.and_two_pow_sub_one_eq_mod]
  show IntKind.i64.wrap ((BitVec.ofInt 64 n &&& BitVec.ofInt 64 3).toNat : Nat) = n % 4
  rw [key, IntKind.wrap_i64]
  omega
theorem i64_and63 (n : Int) : bits .and .i64 n 63 = n % 64 := by
  have h3 : (BitVec.ofInt 64 63).toNat = 2 ^ 6 - 1 := by decide
  have key : (BitVec.ofInt 64 n &&& BitVec.ofInt 64 63).toNat = (n % ((2 ^ 64 : Nat) : Int)).toNat % 2 ^ 6 := by
    rw [BitVec.toNat_and, BitVec.toNat_ofInt, h3, Nat.and_two_pow_sub_one_eq_mod]
  show IntKind.i64.wrap ((BitVec.ofInt 64 n &&& BitVec.ofInt 64 63).toNat : Nat) = n % 64
  rw [key, IntKind.wrap_i64]
  omega

/-- No CPU is pinned at one more than one ago. -/
def Near (s : Ep) : Prop := ∀ a, some a ∈ s.P → s.n ≤ a + 1
theorem Near.pin {s : Ep} (h : Near s) (f : Int) : Near (pinS s f) := by
  unfold pinS
  split
  · intro a ha
    rcases mem_set ha with e | e
    · cases e; show s.n ≤ s.n + 1; omega
    · exact h a e
  · exact h
theorem Near.un {s : Ep} (h : Near s) (f : Int) : Near (unS s f) := by
  unfold unS
  split
  · intro a ha
    rcases mem_set ha with e | e
    · cases e
    · exact h a e
  · exact h
theorem Near.adv {s : Ep} (h : Near s) : Near (advS s) := by
  unfold advS
  split
  · rename_i hT
    intro a ha
    have hn : late s.n (some a) = false := by
      cases hl : late s.n (some a)
      · rfl
      · have : advT s = false := by unfold advT; rw [List.any_eq_true.2 ⟨_, ha, hl⟩]; rfl
        rw [this] at hT; cases hT
    have : a = s.n := by simpa [late] using hn
    show s.n + 1 ≤ a + 1
    omega
  · exact h
theorem pinS_len (s : Ep) (f : Int) : (pinS s f).P.length = s.P.length := by unfold pinS; split <;> simp
theorem unS_len (s : Ep) (f : Int) : (unS s f).P.length = s.P.length := by unfold unS; split <;> simp
theorem advS_len (s : Ep) : (advS s).P.length = s.P.length := by unfold advS; split <;> simp
theorem pinS_n (s : Ep) (f : Int) : (pinS s f).n = s.n := by unfold pinS; split <;> rfl
theorem advS_n (s : Ep) : (advS s).n = if advT s = true then s.n + 1 else s.n := by unfold advS; split <;> rfl
/-- Whether one of the first j CPUs is pinned at another epoch. -/
def lateUp (s : Ep) (j : Nat) : Bool := (s.P.take j).any (late s.n)
theorem lateUp_zero (s : Ep) : lateUp s 0 = false := rfl
theorem lateUp_succ (s : Ep) (j : Nat) (hj : j < s.P.length) : lateUp s (j + 1) = (lateUp s j || ((s.P.getD j none).isSome && (s.P.getD j none).getD 0 != s.n)) := by
  unfold lateUp
  rw [List.take_succ_eq_append_getElem hj, List.any_append]
  simp [late, List.getD, hj]
theorem lateUp_all (s : Ep) (h : s.P.length = 4) : lateUp s 4 = !advT s := by
  unfold lateUp advT
  rw [← h, List.take_length, Bool.not_not]
theorem pn_nat (s : Ep) (j : Nat) (hj : j < s.P.length) : pnA s j = ((s.P.getD j none).getD 0 : Nat) ∧ pnB s j = (s.P.getD j none).isSome := by
  have : isC s (j : Int) := ⟨by omega, by omega⟩
  unfold pnA pnB
  rw [if_pos this, if_pos this]
  exact ⟨rfl, rfl⟩
theorem at_near {B : Nat} {s : Ep} (h : Ok B s) (k : Near s) (j : Nat) (hj : j < s.P.length) (hx : (s.P.getD j none).isSome = true) : (s.P.getD j none).getD 0 ≤ s.n ∧ s.n ≤ (s.P.getD j none).getD 0 + 1 := by
  obtain ⟨a, ha⟩ := Option.isSome_iff_exists.1 hx
  have hm : some a ∈ s.P := by rw [← ha]; simp [List.getD, hj]
  rw [ha]
  exact ⟨h.pins a hm, k a hm⟩
/-- The block of a call that was copied out of the script. -/
abbrev zC (o : Cl) : Obj := .cells #[.int .i64 o.kd, .int .i64 o.c, .int .i64 o.f] 31
theorem Ow.zkeep {w0 w w' : World} {p b m B z : Nat} {s : Ep} {o : Cl} (h : Ow w0 w p b m B s) (k : Bt p b m w w') (hz : w.heap[z]? = some (zC o)) (hp : z ≠ p) (hb : z ≠ b) (hm : z ≠ m) : w'.heap[z]? = some (zC o) := by
  have _ := h
  exact (k.block z (lt_of_block hz) hp hb hm).trans hz

set_option maxRecDepth 100000 in
set_option maxHeartbeats 8000000 in
theorem late_true {n : Nat} {w : World} {q : Option Addr} {c : Nat} {l : List Cl} (hn : n ≤ maxLen) (hl : l.length = n) (hs : Script w q l) :
    Calls Try.prog 7 #[.slice q n c] w fun v w' => v = .returned (.bool true) ∧ Below w.heap.size w w' := by
  have hm : n ≤ 9223372036854775807 := by unfold maxLen at hn; omega
  have HS := hid hs
  have HLn := hid hl
  clear hs hl hn
  go_enter Try.func7, Try.ntmps7
  go_wp2_with fail
  refine (Ow.new (w0 := w) 4 (Below.refl _ _) (by decide) (by decide)).mono ?_
  rintro v w1 ⟨rfl, hO, -⟩
  have O1 := hid hO
  clear hO
  generalize w.heap.size + 1 + 1 = p at O1
  generalize w.heap.size + 1 = m at O1
  generalize w.heap.size = b at O1
  go_wp2
  go_loopw [5] (fun i wr => ∃ (k : Nat) (s : Ep), k ≤ n ∧ k ≤ 120 ∧ i = .int .i64 (k : Nat) ∧ Ow w wr p b m k s ∧ Near s ∧ s.P.length = 4) (fun i _ => n - (intOf i).toNat)
  case atStart => exact ⟨0, _, Nat.zero_le _, by omega, rfl, O1.out, fun a ha => by simp [ep0] at ha, by simp [ep0]⟩
  case round =>
    obtain ⟨k, s, hkn, hk120, rfl, hO, hNe, hL4⟩ := hrel
    have Os := hid hO
    have HNe := hid hNe
    have HL4 := hid hL4
    clear hO hNe hL4
    by_cases hlt : k < n
    · by_cases h120 : k < 120
      · obtain ⟨B, off, rfl, hB, hcell⟩ := HS.out (by intro h; rw [← HLn.out, h] at hlt; simp at hlt)
        obtain ⟨-, c0, c1, c2⟩ := hcell k (by rw [HLn.out]; exact hlt)
        have up : ∀ j, wr.cell? ⟨B, j, none⟩ = w.cell? ⟨B, j, none⟩ := fun j => Os.out.bel.cell (p := ⟨B, j, none⟩) hB
        rw [← up] at c0 c1 c2
        clear up hcell
        generalize l.getD k noCl = cl at c0 c1 c2
        obtain ⟨kd, cc, cf⟩ := cl
        dsimp only at c0 c1 c2
        have Ot := hid (Os.out.alloc (.cells #[.int .i64 kd, .int .i64 cc, .int .i64 cf] 31))
        have HZ : Hid ((wr.alloc (.cells #[.int .i64 kd, .int .i64 cc, .int .i64 cf] 31)).heap[wr.heap.size]? = some (zC ⟨kd, cc, cf⟩)) := heap_alloc_new wr _
        have HZp : Hid (wr.heap.size ≠ p ∧ wr.heap.size ≠ b ∧ wr.heap.size ≠ m) := by
          obtain ⟨h1, h2, h3⟩ := Os.out.ep.lt
          exact ⟨by omega, by omega, by omega⟩
        have b0 := cell_of (i := 0) HZ.out rfl
        have b1 := cell_of (i := 1) HZ.out rfl
        have b2 := cell_of (i := 2) HZ.out rfl
        go_upto_if 38 with fail
        obtain ⟨z, hz⟩ : ∃ z, wr.heap.size = z := ⟨_, rfl⟩
        rw [hz] at HZ HZp b0 b1 b2 ⊢
        clear hz c0 c1 c2
        go_cut [] from 22 to 116 (fun wx => ∃ s2 : Ep, Ow w wx p b m k s2 ∧ Near s2 ∧ s2.P.length = 4 ∧ wx.heap[z]? = some (zC ⟨kd, cc, cf⟩))
        case first =>
          by_cases hkd : kd = 0
          · subst hkd
            go_wp2_with fail
            refine (Ot.out.pin _ _ _ rfl rfl).mono ?_
            rintro v w5 ⟨rfl, hO, hBt⟩
            have O5 := hid hO
            have HZ5 := hid (Ot.out.zkeep hBt HZ.out HZp.out.1 HZp.out.2.1 HZp.out.2.2)
            clear hO hBt b0 b1 b2
            go_wp2
            go_meet
            case rel => exact ⟨_, O5.out, HNe.out.pin _, by rw [pinS_len]; exact HL4.out, HZ5.out⟩
          · have hkd' : (kd == 0) = false := beq_eq_false_iff_ne.2 hkd
            go_wp2
            go_meet
            case rel => exact ⟨_, Ot.out, HNe.out, HL4.out, HZ.out⟩
        case rest =>
          obtain ⟨s2, hO, hNe, hL4, hZ⟩ := hcut
          clear Ot HNe HL4 HZ b0 b1 b2
          have Ot := hid hO
          have HNe := hid hNe
          have HL4 := hid hL4
          have HZ := hid hZ
          clear hO hNe hL4 hZ
          obtain ⟨s, hs⟩ : ∃ s, s = s2 := ⟨_, rfl⟩
          rw [← hs] at Ot HNe HL4
          clear hs
          have b0 := cell_of (i := 0) HZ.out rfl
          have b1 := cell_of (i := 1) HZ.out rfl
          have b2 := cell_of (i := 2) HZ.out rfl
          go_upto_if 46 with fail
          go_cut [] from 22 to 116 (fun wx => ∃ s2 : Ep, Ow w wx p b m k s2 ∧ Near s2 ∧ s2.P.length = 4 ∧ wx.heap[z]? = some (zC ⟨kd, cc, cf⟩))
          case first =>
            by_cases hkd : kd = 1
            · subst hkd
              go_wp2_with fail
              refine (Ot.out.unpin _ _ _ rfl rfl).mono ?_
              rintro v w5 ⟨rfl, hO, hBt⟩
              have O5 := hid hO
              have HZ5 := hid (Ot.out.zkeep hBt HZ.out HZp.out.1 HZp.out.2.1 HZp.out.2.2)
              clear hO hBt b0 b1 b2
              go_wp2
              go_meet
              case rel => exact ⟨_, O5.out, HNe.out.un _, by rw [unS_len]; exact HL4.out, HZ5.out⟩
            · have hkd' : (kd == 1) = false := beq_eq_false_iff_ne.2 hkd
              go_wp2
              go_meet
              case rel => exact ⟨_, Ot.out, HNe.out, HL4.out, HZ.out⟩
          case rest =>
            obtain ⟨s2, hO, hNe, hL4, hZ⟩ := hcut
            clear Ot HNe HL4 HZ b0 b1 b2
            have Ot := hid hO
            have HNe := hid hNe
            have HL4 := hid hL4
            have HZ := hid hZ
            clear hO hNe hL4 hZ
            obtain ⟨s, hs⟩ : ∃ s, s = s2 := ⟨_, rfl⟩
            rw [← hs] at Ot HNe HL4
            clear hs
            go_wp2_with fail
            go_loopw [7, 8] (fun lt i wx => ∃ j : Nat, j ≤ 4 ∧ i = .int .i64 (j : Nat) ∧ lt = .bool (lateUp s j) ∧ Ow w wx p b m k s ∧ wx.heap[z]? = some (zC ⟨kd, cc, cf⟩)) (fun _ i _ => 4 - (intOf i).toNat)
            case atStart => exact ⟨0, by omega, rfl, by rw [lateUp_zero], Ot.out, HZ.out⟩
            case round =>
              obtain ⟨j, hj, rfl, rfl, hO, hZ⟩ := hrel
              have Oj := hid hO
              have HZj := hid hZ
              clear hO hZ
              by_cases hj4 : j < 4
              · obtain ⟨hA, hX⟩ := pn_nat s j (by rw [HL4.out]; exact hj4)
                have hSu := lateUp_succ s j (by rw [HL4.out]; exact hj4)
                have hNr := at_near Oj.out.ok HNe.out j (by rw [HL4.out]; exact hj4)
                generalize (s.P.getD j none).isSome = x at hX hSu hNr
                generalize (s.P.getD j none).getD 0 = at' at hA hSu hNr
                have HP := hid (Oj.out.pinned (j : Nat) (at' : Nat) x hA hX)
                have HSu := hid hSu
                have htop := Oj.out.ok.top
                obtain ⟨n, hn⟩ : ∃ n, s.n = n := ⟨_, rfl⟩
                rw [hn] at HSu hNr htop
                have HNow : Hid (∀ W : World, Ow w W p b m k s → Calls Try.prog 23 #[.pointer (some ⟨p, 0, none⟩)] W fun e w' => e = .returned (.int .i64 (n : Nat)) ∧ w' = W) := fun W h => h.now n hn
                clear hA hX hSu hn
                generalize lateUp s j = l1 at *
                go_wp2_with fail
                refine HP.out.mono ?_
                rintro v w5 ⟨rfl, hO, hB⟩
                have O5 := hid hO
                have HZ5 := hid (stay hB HZj.out)
                clear hO hB
                have hdd : ((at' : Int) != (n : Int)) = (at' != n) := by
                  rw [Bool.eq_iff_iff]; simp; omega
                generalize hd : (at' != n) = d at *
                cases x
                · clear hNr hd
                  cases l1
                  · go_wp2_with fail
                    go_roundw
                    case rel => exact ⟨j + 1, by omega, by go_num, by rw [HSu.out]; rfl, O5.out, HZ5.out⟩
                    case measure => simp [intOf]; omega
                  · go_wp2_with fail
                    go_roundw
                    case rel => exact ⟨j + 1, by omega, by go_num, by rw [HSu.out]; rfl, O5.out, HZ5.out⟩
                    case measure => simp [intOf]; omega
                · obtain ⟨h1, h2⟩ := hNr rfl
                  have k1 : (at' : Int) ≤ n := by omega
                  have k2 : (n : Int) - 1 ≤ at' := by omega
                  have hw : IntKind.i64.wrap ((n : Int) - 1) = (n : Int) - 1 := i64w (by omega) (by omega)
                  clear hNr h2 hd
                  go_wp2_with fail
                  refine (HNow.out _ O5.out).mono ?_
                  rintro v w6 ⟨rfl, rfl⟩
                  go_wp2_with fail
                  refine (HNow.out _ O5.out).mono ?_
                  rintro v w6 ⟨rfl, rfl⟩
                  cases l1
                  · go_wp2_with fail
                    refine (HNow.out _ O5.out).mono ?_
                    rintro v w6 ⟨rfl, rfl⟩
                    go_wp2_with fail
                    go_roundw
                    case rel => exact ⟨j + 1, by omega, by go_num, by rw [HSu.out]; rfl, O5.out, HZ5.out⟩
                    case measure => simp [intOf]; omega
                  · go_wp2_with fail
                    go_roundw
                    case rel => exact ⟨j + 1, by omega, by go_num, by rw [HSu.out]; rfl, O5.out, HZ5.out⟩
                    case measure => simp [intOf]; omega
              · obtain rfl : j = 4 := by omega
                rw [lateUp_all s HL4.out, show (((4 : Nat)) : Int) = 4 from rfl]
                clear Ot HZ
                have Ot := hid Oj.out
                have HZ := hid HZj.out
                clear Oj HZj
                have htop := Ot.out.ok.top
                have hnn := advS_n s
                generalize hT : advT s = T at *
                obtain ⟨n, hn⟩ : ∃ n, s.n = n := ⟨_, rfl⟩
                rw [hn] at htop hnn
                have HNow := hid (Ot.out.now n hn)
                have HAdv := hid (Ot.out.adv (by omega) T _ hT rfl)
                have HNe2 := hid HNe.out.adv
                have HL42 := hid ((advS_len s).trans HL4.out)
                clear hT hn
                have b0 := cell_of (i := 0) HZ.out rfl
                have b1 := cell_of (i := 1) HZ.out rfl
                have b2 := cell_of (i := 2) HZ.out rfl
                go_wp2_with fail
                refine HNow.out.mono ?_
                rintro v w5 ⟨rfl, rfl⟩
                by_cases hkd : kd = 3
                · subst hkd
                  generalize advS s = t at *
                  go_wp2_with fail
                  refine HAdv.out.mono ?_
                  rintro v w6 ⟨rfl, hO, hBt⟩
                  have O6 := hid hO
                  clear hO hBt b0 b1 b2
                  cases T
                  · have HN2 : Hid (∀ W : World, Ow w W p b m (k + 1) t → Calls Try.prog 23 #[.pointer (some ⟨p, 0, none⟩)] W fun e w' => e = .returned (.int .i64 (n : Nat)) ∧ w' = W) := fun W h => h.now n hnn
                    clear hnn
                    have hw : IntKind.i64.wrap ((n : Int) + 1) = (n : Int) + 1 := i64w (by omega) (by omega)
                    have g1 : ((n : Int) != (n : Int)) = false := by simp
                    have g2 : ((n : Int) != (n : Int) + 1) = true := by simpa using (by omega : ¬ (n : Int) = (n : Int) + 1)
                    go_wp2_with fail
                    refine (HN2.out _ O6.out).mono ?_
                    rintro v w7 ⟨rfl, rfl⟩
                    go_wp2_with fail
                    refine (HN2.out _ O6.out).mono ?_
                    rintro v w7 ⟨rfl, rfl⟩
                    go_wp2_with fail
                    go_roundw
                    case rel => exact ⟨k + 1, _, by omega, by omega, by go_num, O6.out, HNe2.out, HL42.out⟩
                    case measure => simp [intOf]; omega
                  · have HN2 : Hid (∀ W : World, Ow w W p b m (k + 1) t → Calls Try.prog 23 #[.pointer (some ⟨p, 0, none⟩)] W fun e w' => e = .returned (.int .i64 ((n : Int) + 1)) ∧ w' = W) := fun W h => h.now (n + 1) hnn
                    clear hnn
                    have hw : IntKind.i64.wrap ((n : Int) + 1) = (n : Int) + 1 := i64w (by omega) (by omega)
                    have g1 : ((n : Int) + 1 != (n : Int)) = true := by simpa using (by omega : ¬ (n : Int) + 1 = (n : Int))
                    have g2 : ((n : Int) + 1 != (n : Int) + 1) = false := by simp
                    go_wp2_with fail
                    refine (HN2.out _ O6.out).mono ?_
                    rintro v w7 ⟨rfl, rfl⟩
                    go_wp2_with fail
                    refine (HN2.out _ O6.out).mono ?_
                    rintro v w7 ⟨rfl, rfl⟩
                    go_wp2_with fail
                    go_roundw
                    case rel => exact ⟨k + 1, _, by omega, by omega, by go_num, O6.out, HNe2.out, HL42.out⟩
                    case measure => simp [intOf]; omega
                · have hkd' : (kd == 3) = false := beq_eq_false_iff_ne.2 hkd
                  go_wp2_with fail
                  go_roundw
                  case rel => exact ⟨k + 1, s, by omega, by omega, by go_num, Ot.out.mono (by omega), HNe.out, HL4.out⟩
                  case measure => simp [intOf]; omega
      · have h120' : ¬ ((k : Int) < 120) := by omega
        go_wp2_with fail
        refine (known_yes _).mono ?_
        rintro v w9 ⟨rfl, hB9⟩
        have O9 := hid (Os.out.below hB9)
        clear hB9
        go_wp2
        go_ret
        exact ⟨rfl, O9.out.bel⟩
    · have hlt' : ¬ ((k : Int) < n) := by omega
      go_wp2_with fail
      refine (known_yes _).mono ?_
      rintro v w9 ⟨rfl, hB9⟩
      have O9 := hid (Os.out.below hB9)
      clear hB9
      go_wp2
      go_ret
      exact ⟨rfl, O9.out.bel⟩
end Go.Proofs.Ythiicngnhnglfaa
