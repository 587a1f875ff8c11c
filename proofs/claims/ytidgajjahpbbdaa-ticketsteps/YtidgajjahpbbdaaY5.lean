/- What stands in memory while holders go on; lists of small numbers as arguments. Of no function; no conditions. -/
import Derived.Test.YtidgajjahpbbdaaY4
namespace Go.Proofs.Ytidgajjahpbbdaa
open Go.RowKit

/-- A list of small numbers reads as z. -/
def PL (w : World) (q : Option Addr) (n : Nat) (z : Nat → Nat) : Prop :=
  n ≤ maxLen ∧ (∀ i, z i < 256) ∧ (n ≠ 0 → ∃ b off, q = some ⟨b, off, none⟩ ∧ b < w.heap.size ∧ ∀ i, i < n → w.cell? ⟨b, off + i, none⟩ = some (.int .u8 (z i : Int)))

theorem start_I {w0 w : World} {p b : Nat} {s : St} (a : Int) (i : Int) (n : Nat) (hi : i = n) (hM : Mem 59 w p b s) (hB : Below w0.heap.size w0 w) (p0 : w0.heap.size ≤ p) (b0 : w0.heap.size ≤ b) (h0 : 0 ≤ a) (h1 : a ≤ 65000) (hn : n ≤ 1000) :
    Calls Try.prog 10 #[.int .i64 a, .int .i64 i] w fun e w' => ∃ v G f, e = .returned (.tuple #[v, .bool true]) ∧ Sy w0 w' p b [] s n G f v ∧ (∀ i, i < n → f i = ⟨a, false, 0, 0⟩) ∧ (∀ i, i < n → w.heap.size ≤ G i) ∧ (∀ q, v.ownBlock = some q → w.heap.size ≤ q) ∧ Below w.heap.size w w' := by
  subst hi
  exact start_at a n hM hB p0 b0 h0 h1 hn

theorem Sy.leave {w0 w w' : World} {p b : Nat} {X : List (Nat × Obj)} {s : St} {k : Nat} {G : Nat → Nat} {f : Nat → Ho} {v : Value} {x' : Ho} (H : Sy w0 w p b X s k G f v) (i : Nat) (hi : i < k) (K : IsHo w' (G i) x' ∧ But (G i) (G i) w w') : Sy w0 w' p b X s k G (upd f i x') v :=
  H.step i hi ⟨⟨H.mem.but K.2 (H.Gp i hi).symm (H.Gp i hi).symm (H.Gb i hi).symm (H.Gb i hi).symm, K.1, H.Gp i hi, H.Gb i hi⟩, But3.of_one K.2⟩

/-- What stands at the beginning of a round: c calls have been made at most. -/
structure Od (w0 w : World) (p b c : Nat) (n s d l m : Int) (k : Nat) (G : Nat → Nat) (f : Nat → Ho) (v : Value) : Prop where
  sy : Sy w0 w p b [] (s4 n s d l) k G f v
  to : TO k f n s m
  cnt : Cnt (s4 n s d l) c
theorem Od.below {w0 w w' : World} {p b c : Nat} {n s d l m : Int} {k : Nat} {G : Nat → Nat} {f : Nat → Ho} {v : Value} (H : Od w0 w p b c n s d l m k G f v) (K : Below w.heap.size w w') : Od w0 w' p b c n s d l m k G f v := ⟨H.sy.below K, H.to, H.cnt⟩
theorem Od.leave {w0 w w' : World} {p b c : Nat} {n s d l m : Int} {k : Nat} {G : Nat → Nat} {f : Nat → Ho} {v : Value} (H : Od w0 w p b c n s d l m k G f v) (i : Nat) (hi : i < k) (K : IsHo w' (G i) (lvT (f i)) ∧ But (G i) (G i) w w') : Od w0 w' p b c n s d l m k G (upd f i (lvT (f i))) v :=
  ⟨H.sy.leave i hi K, H.to.leaves i hi, H.cnt⟩
theorem Od.step {w0 w w' : World} {p b c : Nat} {n s d l m : Int} {k : Nat} {G : Nat → Nat} {f : Nat → Ho} {v : Value} (H : Od w0 w p b c n s d l m k G f v) (hk : k ≤ 1000) (i : Nat) (hi : i < k) (K : Hs w' p b (G i) (hT (s4 n s d l) (f i)) (hX (s4 n s d l) (f i)) ∧ But3 (G i) p b w w') :
    ∃ n' s' d' l', Od w0 w' p b (c + 1) n' s' d' l' (if newly (f i) (hX (s4 n s d l) (f i)) = true then m + 1 else m) k G (upd f i (hX (s4 n s d l) (f i))) v ∧ (newly (f i) (hX (s4 n s d l) (f i)) = true → (hX (s4 n s d l) (f i)).tk = m) := by
  obtain ⟨n', s', d', l', e, h, h2⟩ := H.to.step (d := d) (l := l) hk i hi
  have hc := H.cnt.hT (f i)
  rw [e] at K hc
  exact ⟨n', s', d', l', ⟨H.sy.step i hi K, h, hc⟩, h2⟩
theorem Od.load {w0 w w' : World} {p b c : Nat} {n s d l m : Int} {k : Nat} {G : Nat → Nat} {f : Nat → Ho} {v : Value} (H : Od w0 w p b c n s d l m k G f v) (a : Int) (h0 : 0 ≤ a) (h1 : a < 4) (K : Turns 59 p b w w' (loadT (s4 n s d l) a)) : Od w0 w' p b (c + 1) n s (d + 1) l m k G f v := by
  have e : loadT (s4 n s d l) a = s4 n s (d + 1) l := by
    have : there (s4 n s d l) a = true := inB_yes.2 ⟨h0, h1⟩
    unfold loadT; rw [if_pos this]
  have hc := H.cnt.load a
  rw [e] at K hc
  exact ⟨H.sy.load K, H.to, hc⟩
theorem Od.hs {w0 w : World} {p b c : Nat} {n s d l m : Int} {k : Nat} {G : Nat → Nat} {f : Nat → Ho} {v : Value} (H : Od w0 w p b c n s d l m k G f v) (i : Nat) (hi : i < k) : Hs w p b (G i) (s4 n s d l) (f i) := H.sy.hs i hi
theorem Od.mono {w0 w : World} {p b c c' : Nat} {n s d l m : Int} {k : Nat} {G : Nat → Nat} {f : Nat → Ho} {v : Value} (H : Od w0 w p b c n s d l m k G f v) (h : c ≤ c') : Od w0 w p b c' n s d l m k G f v := ⟨H.sy, H.to, H.cnt.mono h⟩
theorem Od.first {w0 w : World} {p b : Nat} {k : Nat} {G : Nat → Nat} {f : Nat → Ho} {v : Value} (H : Sy w0 w p b [] ⟨List.replicate 4 0, 0, 0⟩ k G f v) (h : ∀ i, i < k → f i = ⟨1, false, 0, 0⟩) : Od w0 w p b 0 0 0 0 0 0 k G f v :=
  ⟨H, TO.first h, ⟨by decide, by decide, by decide, by decide⟩⟩
end Go.Proofs.Ytidgajjahpbbdaa
