/- Plain arithmetic over words of 64 bits, of no program: a field's mask, a field that is got or put, a word's ones, and that the library's way of counting them counts them. No conditions but that a word is below 2^64. -/
import Derived.Lib.TrailingZeros
namespace Go.Proofs.YthhilppeeffheaaDoor
namespace M
def mk (l s : Nat) : Nat := (2 ^ s - 1) * 2 ^ l
def gt (w l s : Nat) : Nat := w / 2 ^ l % 2 ^ s
def pt (w l s v : Nat) : Nat := 2 ^ (l + s) * (w / 2 ^ (l + s)) + (2 ^ l * (v % 2 ^ s) + w % 2 ^ l)

theorem ones_div (s : Nat) (h : s ≤ 64) : 18446744073709551615 / 2 ^ (64 - s) = 2 ^ s - 1 := by
  have e : (18446744073709551616 : Nat) = 2 ^ (64 - s) * 2 ^ s := by
    rw [← Nat.pow_add, show 64 - s + s = 64 by omega]
  have hp : 0 < 2 ^ s := Nat.two_pow_pos s
  have hq : 0 < 2 ^ (64 - s) := Nat.two_pow_pos _
  have e2 : (18446744073709551615 : Nat) = 2 ^ (64 - s) * 2 ^ s - 1 := by omega
  rw [e2]
  apply Nat.div_eq_of_lt_le
  · rw [Nat.mul_comm, Nat.mul_sub]; omega
  · rw [Nat.sub_add_cancel hp, Nat.mul_comm (2 ^ s)]; omega

theorem tb_mk (l s i : Nat) : (mk l s).testBit i = decide (l ≤ i ∧ i < l + s) := by
  unfold mk
  rw [Nat.testBit_mul_two_pow, Nat.testBit_two_pow_sub_one]
  by_cases h1 : l ≤ i <;> by_cases h2 : i < l + s <;> simp [h1, h2] <;> omega

theorem mk_lt (l s : Nat) (h : l + s ≤ 64) : mk l s < 18446744073709551616 := by
  have h1 : (2 ^ s - 1) * 2 ^ l < 2 ^ s * 2 ^ l := Nat.mul_lt_mul_of_pos_right (by have := Nat.two_pow_pos s; omega) (Nat.two_pow_pos l)
  rw [← Nat.pow_add] at h1
  have h2 : 2 ^ (s + l) ≤ 2 ^ 64 := Nat.pow_le_pow_right (by decide) (by omega)
  unfold mk
  omega

theorem and_mk (w l s : Nat) : (w &&& mk l s) / 2 ^ l = gt w l s := by
  apply Nat.eq_of_testBit_eq
  intro i
  unfold gt
  rw [Nat.testBit_div_two_pow, Nat.testBit_and, tb_mk, Nat.testBit_mod_two_pow, Nat.testBit_div_two_pow]
  by_cases h : i < s <;> simp [h] <;> omega

theorem tb_pt (w l s v i : Nat) : (pt w l s v).testBit i = if l ≤ i ∧ i < l + s then v.testBit (i - l) else w.testBit i := by
  unfold pt
  have h1 : w % 2 ^ l < 2 ^ l := Nat.mod_lt _ (Nat.two_pow_pos l)
  have h2 : 2 ^ l * (v % 2 ^ s) + w % 2 ^ l < 2 ^ (l + s) := by
    have : v % 2 ^ s + 1 ≤ 2 ^ s := Nat.mod_lt _ (Nat.two_pow_pos s)
    have := Nat.mul_le_mul_left (2 ^ l) this
    rw [Nat.pow_add]
    rw [Nat.mul_add] at this
    omega
  rw [Nat.testBit_two_pow_mul_add _ h2, Nat.testBit_two_pow_mul_add _ h1, Nat.testBit_div_two_pow, Nat.testBit_mod_two_pow, Nat.testBit_mod_two_pow]
  by_cases a : i < l + s
  · by_cases b : i < l
    · have : ¬ l ≤ i := by omega
      simp [a, b, this]
    · have c : l ≤ i := by omega
      have d : i - l < s := by omega
      simp [a, b, c, d]
  · have c : ¬ (l ≤ i ∧ i < l + s) := by omega
    have d : l + s + (i - (l + s)) = i := by omega
    rw [if_neg a, if_neg c]
    congr 1
    omega

theorem lt_of_tb (x n : Nat) (h : ∀ i, n ≤ i → x.testBit i = false) : x < 2 ^ n := Nat.lt_pow_two_of_testBit x h

theorem tb_high (w i : Nat) (hw : w < 18446744073709551616) (h : 64 ≤ i) : w.testBit i = false :=
  Nat.testBit_lt_two_pow (Nat.lt_of_lt_of_le hw (show 2 ^ 64 ≤ 2 ^ i from Nat.pow_le_pow_right (by decide) h))

theorem pt_lt (w l s v : Nat) (hw : w < 18446744073709551616) (h : l + s ≤ 64) : pt w l s v < 18446744073709551616 := by
  refine lt_of_tb _ 64 fun i hi => ?_
  rw [tb_pt, if_neg (by omega)]
  exact tb_high w i hw hi

theorem gt_lt (w l s : Nat) (hw : w < 18446744073709551616) : gt w l s < 18446744073709551616 := by
  unfold gt
  have h1 : w / 2 ^ l ≤ w := Nat.div_le_self _ _
  have h2 : w / 2 ^ l % 2 ^ s ≤ w / 2 ^ l := Nat.mod_le _ _
  omega

/-- The code's Put, bit by bit. -/
theorem put_eq (w l s v : Nat) (hw : w < 18446744073709551616) (h : l + s ≤ 64) :
    (w &&& (18446744073709551615 - mk l s)) ||| (v * 2 ^ l % 18446744073709551616 &&& mk l s) = pt w l s v := by
  apply Nat.eq_of_testBit_eq
  intro i
  have hm := mk_lt l s h
  have e1 : 18446744073709551615 - mk l s = 2 ^ 64 - (mk l s + 1) := by omega
  rw [tb_pt, Nat.testBit_or, Nat.testBit_and, Nat.testBit_and, e1, Nat.testBit_two_pow_sub_succ hm, tb_mk, show (18446744073709551616 : Nat) = 2 ^ 64 from rfl, Nat.testBit_mod_two_pow, Nat.testBit_mul_two_pow]
  by_cases a : l ≤ i ∧ i < l + s
  · have b : i < 64 := by omega
    simp [a, b]
  · by_cases b : i < 64
    · simp [a, b]
    · have := tb_high w i hw (by omega)
      simp [a, this]

theorem mk_int (l s : Nat) (_h1 : 1 ≤ s) (h2 : l + s ≤ 64) :
    (18446744073709551615 : Int) / 2 ^ (64 - s) * 2 ^ l % 18446744073709551616 = ((mk l s : Nat) : Int) := by
  have hd := ones_div s (by omega)
  have hm := mk_lt l s h2
  have e : (18446744073709551615 : Int) / 2 ^ (64 - s) * 2 ^ l = ((18446744073709551615 / 2 ^ (64 - s) * 2 ^ l : Nat) : Int) := by
    simp
  rw [e, hd]
  unfold mk at hm ⊢
  omega

/-! ones -/
def onesL (w : Nat) : List Nat := (List.range 64).filter fun i => w.testBit i

def popN : Nat → Nat → Nat
  | 0, _ => 0
  | n + 1, w => w % 2 + popN n (w / 2)

theorem popN_filter : ∀ (n w : Nat), ((List.range n).filter fun i => w.testBit i).length = popN n w
  | 0, _ => rfl
  | n + 1, w => by
    rw [List.range_succ_eq_map, popN, ← popN_filter n (w / 2), List.filter_cons, List.filter_map, ]
    have e : ((fun i => w.testBit i) ∘ Nat.succ) = fun i => (w / 2).testBit i := by
      funext i
      simp [Nat.testBit_succ]
    rw [e]
    rw [Nat.testBit_zero]
    by_cases h : w % 2 = 1
    · simp [h]; omega
    · have : w % 2 = 0 := by omega
      simp [this]

theorem onesL_length (w : Nat) : (onesL w).length = popN 64 w := popN_filter 64 w

theorem popN_or_and : ∀ (n w x : Nat), popN n (w ||| x) + popN n (w &&& x) = popN n w + popN n x
  | 0, _, _ => rfl
  | n + 1, w, x => by
    have ih := popN_or_and n (w / 2) (x / 2)
    have e1 : (w ||| x) / 2 = w / 2 ||| x / 2 := Nat.or_div_two
    have e2 : (w &&& x) / 2 = w / 2 &&& x / 2 := Nat.and_div_two
    have e3 : (w ||| x) % 2 + (w &&& x) % 2 = w % 2 + x % 2 := by
      have a := Nat.or_mod_two_pow (a := w) (b := x) (n := 1)
      have b := Nat.and_mod_two_pow (a := w) (b := x) (n := 1)
      simp only [Nat.pow_one] at a b
      rw [a, b]
      rcases Nat.mod_two_eq_zero_or_one w with h | h <;> rcases Nat.mod_two_eq_zero_or_one x with k | k <;> simp [h, k]
    simp only [popN, e1, e2]
    omega

theorem popN_le : ∀ (n w : Nat), popN n w ≤ n
  | 0, _ => Nat.le_refl _
  | n + 1, w => by have := popN_le n (w / 2); unfold popN; omega

theorem popN_zero : ∀ n, popN n 0 = 0
  | 0 => rfl
  | n + 1 => by unfold popN; simp [popN_zero n]

theorem popN_ones : ∀ (n s : Nat), s ≤ n → popN n (2 ^ s - 1) = s
  | n, 0, _ => by simp [popN_zero]
  | n + 1, s + 1, h => by
    have ih := popN_ones n s (by omega)
    have hp := Nat.two_pow_pos s
    have e1 : (2 ^ (s + 1) - 1) % 2 = 1 := by rw [Nat.pow_succ]; omega
    have e2 : (2 ^ (s + 1) - 1) / 2 = 2 ^ s - 1 := by rw [Nat.pow_succ]; omega
    unfold popN
    rw [e1, e2, ih]; omega

theorem popN_mk : ∀ (l n s : Nat), l + s ≤ n → popN n (mk l s) = s
  | 0, n, s, h => by unfold mk; simpa using popN_ones n s (by omega)
  | l + 1, 0, s, h => by simp [popN]; omega
  | l + 1, n + 1, s, h => by
    have ih := popN_mk l n s (by omega)
    have e : mk (l + 1) s = 2 * mk l s := by unfold mk; rw [Nat.pow_succ, ← Nat.mul_assoc, Nat.mul_comm]
    unfold popN
    rw [e, Nat.mul_mod_right, Nat.mul_div_cancel_left _ (by decide), ih]; omega

theorem onesL_mk (l s : Nat) (h : l + s ≤ 64) : onesL (mk l s) = List.range' l s := by
  unfold onesL
  have e : List.range 64 = List.range' 0 l ++ (List.range' l s ++ List.range' (l + s) (64 - (l + s))) := by
    rw [List.range_eq_range']
    have a := List.range'_append_1 (s := l) (m := s) (n := 64 - (l + s))
    have b := List.range'_append_1 (s := 0) (m := l) (n := s + (64 - (l + s)))
    rw [Nat.zero_add] at b
    rw [a, b]
    congr 1; omega
  rw [e, List.filter_append, List.filter_append]
  have f1 : (List.range' 0 l).filter (fun i => (mk l s).testBit i) = [] := by
    rw [List.filter_eq_nil_iff]; intro i hi; rw [List.mem_range'_1] at hi; rw [tb_mk]; simp; omega
  have f2 : (List.range' l s).filter (fun i => (mk l s).testBit i) = List.range' l s := by
    rw [List.filter_eq_self]; intro i hi; rw [List.mem_range'_1] at hi; rw [tb_mk]; simp; omega
  have f3 : (List.range' (l + s) (64 - (l + s))).filter (fun i => (mk l s).testBit i) = [] := by
    rw [List.filter_eq_nil_iff]; intro i hi; rw [List.mem_range'_1] at hi; rw [tb_mk]; simp; omega
  rw [f1, f2, f3]; simp

theorem tb_odd (k m i : Nat) : (2 ^ k * (2 * m + 1)).testBit i = decide (i = k ∨ k < i ∧ m.testBit (i - k - 1) = true) := by
  rw [Nat.mul_comm, Nat.testBit_mul_two_pow]
  by_cases h : k ≤ i
  · obtain ⟨j, rfl⟩ : ∃ j, i = k + j := ⟨i - k, by omega⟩
    rw [show k + j - k = j by omega]
    cases j with
    | zero => simp [Nat.testBit_zero]
    | succ j =>
      rw [Nat.testBit_succ, show (2 * m + 1) / 2 = m by omega]
      simp
  · simp [h]; omega

theorem and_pred (k m : Nat) : (2 ^ k * (2 * m + 1)) &&& (2 ^ k * (2 * m + 1) - 1) = 2 ^ (k + 1) * m := by
  have hp := Nat.two_pow_pos k
  have e : 2 ^ k * (2 * m + 1) - 1 = 2 ^ k * (2 * m) + (2 ^ k - 1) := by
    rw [Nat.mul_add, Nat.mul_one]; omega
  apply Nat.eq_of_testBit_eq
  intro i
  rw [e, Nat.testBit_and, tb_odd, Nat.testBit_two_pow_mul_add _ (by omega), Nat.mul_comm (2 ^ (k + 1)), Nat.testBit_mul_two_pow]
  by_cases h : i < k
  · have h1 : ¬ (i = k ∨ k < i ∧ m.testBit (i - k - 1) = true) := by omega
    have h2 : ¬ i ≥ k + 1 := by omega
    simp [h1, h2]
  · by_cases h3 : i = k
    · subst h3
      have h4 : ¬ i ≥ i + 1 := by omega
      simp [Nat.testBit_zero, h4]
    · obtain ⟨j, rfl⟩ : ∃ j, i = k + (j + 1) := ⟨i - k - 1, by omega⟩
      have a1 : k + (j + 1) - k = j + 1 := by omega
      have a2 : k + (j + 1) - k - 1 = j := by omega
      have a3 : k + (j + 1) - (k + 1) = j := by omega
      have a4 : k + (j + 1) ≥ k + 1 := by omega
      rw [if_neg h, a1, a3, Nat.testBit_succ, show 2 * m / 2 = m by omega]
      simp [a4]

theorem onesL_odd (k m : Nat) (hk : k < 64) : onesL (2 ^ k * (2 * m + 1)) = k :: onesL (2 ^ (k + 1) * m) := by
  unfold onesL
  have e : List.range 64 = List.range' 0 k ++ (k :: List.range' (k + 1) (63 - k)) := by
    have a : k :: List.range' (k + 1) (63 - k) = List.range' k (64 - k) := by
      rw [show 64 - k = (63 - k) + 1 by omega, List.range'_succ]
    have b := List.range'_append_1 (s := 0) (m := k) (n := 64 - k)
    rw [Nat.zero_add] at b
    rw [a, b, List.range_eq_range']
    congr 1; omega
  have t2 : ∀ i, (2 ^ (k + 1) * m).testBit i = decide (k < i ∧ m.testBit (i - k - 1) = true) := by
    intro i
    rw [Nat.mul_comm, Nat.testBit_mul_two_pow, show i - (k + 1) = i - k - 1 by omega]
    by_cases h : k < i
    · have : i ≥ k + 1 := h
      simp [h, this]
    · have : ¬ i ≥ k + 1 := by omega
      simp [h, this]
  rw [e, List.filter_append, List.filter_append, List.filter_cons, List.filter_cons]
  have f1 : (List.range' 0 k).filter (fun i => (2 ^ k * (2 * m + 1)).testBit i) = [] := by
    rw [List.filter_eq_nil_iff]; intro i hi; rw [List.mem_range'_1] at hi; rw [tb_odd]; simp; omega
  have f2 : (List.range' 0 k).filter (fun i => (2 ^ (k + 1) * m).testBit i) = [] := by
    rw [List.filter_eq_nil_iff]; intro i hi; rw [List.mem_range'_1] at hi; rw [t2]; simp; omega
  have f3 : (List.range' (k + 1) (63 - k)).filter (fun i => (2 ^ k * (2 * m + 1)).testBit i) = (List.range' (k + 1) (63 - k)).filter (fun i => (2 ^ (k + 1) * m).testBit i) := by
    apply List.filter_congr
    intro i hi
    rw [List.mem_range'_1] at hi
    rw [tb_odd, t2]
    have : ¬ i = k := by omega
    simp [this]
  rw [f1, f2, f3, tb_odd, t2]
  simp

theorem onesL_step (w : Nat) (h0 : w ≠ 0) (hw : w < 18446744073709551616) :
    onesL w = Go.Lib.ctz 64 w :: onesL (w &&& (w - 1)) ∧ Go.Lib.ctz 64 w < 64 ∧ (w &&& (w - 1)) < w := by
  obtain ⟨m, hm, hk⟩ := Go.Lib.ctzFrom_spec 64 w (by omega) hw
  have hc : Go.Lib.ctz 64 w = Go.Lib.ctzFrom 64 w := by unfold Go.Lib.ctz; rw [if_neg h0]
  rw [hc]
  refine ⟨?_, hk, ?_⟩
  · generalize Go.Lib.ctzFrom 64 w = k at *
    subst hm
    rw [and_pred]
    exact onesL_odd k m hk
  · have := Nat.and_le_right (n := w) (m := w - 1)
    omega

theorem onesL_zero : onesL 0 = [] := by decide +kernel
theorem onesL_lt (w i : Nat) (h : i ∈ onesL w) : i < 64 := by
  unfold onesL at h; rw [List.mem_filter, List.mem_range] at h; exact h.1
theorem onesL_len (w : Nat) : (onesL w).length ≤ 64 := by
  have := List.length_filter_le (fun i => w.testBit i) (List.range 64)
  unfold onesL; simpa using this

/-! popcount -/
theorem popN_s (n w : Nat) : popN (n + 1) w = w % 2 + popN n (w / 2) := rfl

theorem popN_add : ∀ (a b w : Nat), popN (a + b) w = popN a (w % 2 ^ a) + popN b (w / 2 ^ a)
  | 0, b, w => by simp [popN]
  | a + 1, b, w => by
    have ih := popN_add a b (w / 2)
    rw [show a + 1 + b = (a + b) + 1 by omega, popN_s, popN_s]
    have e1 : w % 2 ^ (a + 1) % 2 = w % 2 := by rw [Nat.pow_succ, Nat.mul_comm]; exact Nat.mod_mul_right_mod w 2 _
    have e2 : w % 2 ^ (a + 1) / 2 = w / 2 % 2 ^ a := by rw [Nat.pow_succ, Nat.mul_comm]; exact Nat.mod_mul_right_div_self w 2 (2 ^ a)
    have e3 : w / 2 / 2 ^ a = w / 2 ^ (a + 1) := by rw [Nat.div_div_eq_div_mul, Nat.pow_succ, Nat.mul_comm]
    rw [ih, e1, e2, e3]; omega

def rep (c : Nat) : Nat → Nat
  | 0 => 0
  | n + 1 => c + 256 * rep c n
theorem rep_s (c n : Nat) : rep c (n + 1) = c + 256 * rep c n := rfl

theorem and_byte (x c m : Nat) (hc : c < 256) : x &&& (c + 256 * m) = (x % 256 &&& c) + 256 * (x / 256 &&& m) := by
  have h1 := Nat.and_mod_two_pow (a := x) (b := c + 256 * m) (n := 8)
  have h2 := Nat.and_div_two_pow (a := x) (b := c + 256 * m) (n := 8)
  simp only [show 2 ^ 8 = 256 from rfl] at h1 h2
  rw [show (c + 256 * m) % 256 = c by omega] at h1
  rw [show (c + 256 * m) / 256 = m by omega] at h2
  have := Nat.mod_add_div (x &&& (c + 256 * m)) 256
  omega

def s1 (n x : Nat) : Nat := (x / 2 &&& rep 85 n) + (x &&& rep 85 n)
def s2 (n x : Nat) : Nat := (x / 4 &&& rep 51 n) + (x &&& rep 51 n)
def s3 (n x : Nat) : Nat := (x / 16 + x) &&& rep 15 n
def bytes (n : Nat) (x : Nat) : Nat := match n with
  | 0 => 0
  | n + 1 => popN 8 (x % 256) + 256 * bytes n (x / 256)

theorem byte1 : ∀ b, b < 256 → ∀ c, c < 2 → ((b / 2 + 128 * c) % 256 &&& 85) = (b / 2 &&& 85) := by decide +kernel
theorem byte2 : ∀ b, b < 256 → ∀ c, c < 4 → ((b / 4 + 64 * c) % 256 &&& 51) = (b / 4 &&& 51) := by decide +kernel
def L1 (b : Nat) : Nat := (b / 2 &&& 85) + (b &&& 85)
def L2 (b : Nat) : Nat := (b / 4 &&& 51) + (b &&& 51)
theorem L1_lt : ∀ b, b < 256 → L1 b < 256 := by decide +kernel
theorem L2_lt : ∀ b, b < 256 → L2 b < 256 := by decide +kernel
theorem L2_nib : ∀ b, b < 256 → L2 (L1 b) < 256 ∧ L2 (L1 b) % 16 ≤ 4 ∧ L2 (L1 b) / 16 ≤ 4 ∧ L2 (L1 b) % 16 + L2 (L1 b) / 16 = popN 8 b := by decide +kernel

theorem s1_step (n x : Nat) : s1 (n + 1) x = L1 (x % 256) + 256 * s1 n (x / 256) := by
  unfold s1 L1
  rw [rep_s, and_byte _ _ _ (by decide), and_byte _ _ _ (by decide)]
  have e : x / 2 % 256 = (x % 256 / 2 + 128 * (x / 256 % 2)) % 256 := by omega
  have e2 : x / 2 / 256 = x / 256 / 2 := by omega
  rw [e, byte1 _ (by omega) _ (by omega), e2]
  omega
theorem s2_step (n x : Nat) : s2 (n + 1) x = L2 (x % 256) + 256 * s2 n (x / 256) := by
  unfold s2 L2
  rw [rep_s, and_byte _ _ _ (by decide), and_byte _ _ _ (by decide)]
  have e : x / 4 % 256 = (x % 256 / 4 + 64 * (x / 256 % 4)) % 256 := by omega
  have e2 : x / 4 / 256 = x / 256 / 4 := by omega
  rw [e, byte2 _ (by omega) _ (by omega), e2]
  omega
theorem s12_step (n x : Nat) : s2 (n + 1) (s1 (n + 1) x) = L2 (L1 (x % 256)) + 256 * s2 n (s1 n (x / 256)) := by
  rw [s1_step, s2_step]
  have h := L1_lt (x % 256) (by omega)
  rw [show (L1 (x % 256) + 256 * s1 n (x / 256)) % 256 = L1 (x % 256) by omega, show (L1 (x % 256) + 256 * s1 n (x / 256)) / 256 = s1 n (x / 256) by omega]
theorem s12_nib : ∀ n x, s2 n (s1 n x) % 16 ≤ 4
  | 0, x => by unfold s2 s1 rep; simp
  | n + 1, x => by
    rw [s12_step]
    have := L2_nib (x % 256) (by omega)
    omega
theorem and15 : ∀ b, b < 256 → (b &&& 15) = b % 16 := by decide +kernel
theorem s123 : ∀ n x, s3 n (s2 n (s1 n x)) = bytes n x
  | 0, x => by simp [s3, rep, bytes]
  | n + 1, x => by
    have ih := s123 n (x / 256)
    have hn := s12_nib n (x / 256)
    have hb := L2_nib (x % 256) (by omega)
    rw [s12_step]
    unfold bytes
    rw [← ih]
    generalize s2 n (s1 n (x / 256)) = z at *
    generalize L2 (L1 (x % 256)) = y at *
    generalize popN 8 (x % 256) = p at *
    unfold s3
    rw [rep_s, and_byte _ _ _ (by decide), and15 _ (by omega)]
    have e1 : ((y + 256 * z) / 16 + (y + 256 * z)) % 256 % 16 = p := by omega
    have e2 : ((y + 256 * z) / 16 + (y + 256 * z)) / 256 = z / 16 + z := by omega
    rw [e1, e2]

def fold (a : Nat) : Nat := ((a + a / 256) + (a + a / 256) / 65536) + ((a + a / 256) + (a + a / 256) / 65536) / 4294967296

theorem fold_eq (p0 p1 p2 p3 p4 p5 p6 p7 : Nat) (b0 : p0 ≤ 8) (b1 : p1 ≤ 8) (b2 : p2 ≤ 8) (b3 : p3 ≤ 8) (b4 : p4 ≤ 8) (b5 : p5 ≤ 8) (b6 : p6 ≤ 8) (b7 : p7 ≤ 8) :
    p0 + 256 * (p1 + 256 * (p2 + 256 * (p3 + 256 * (p4 + 256 * (p5 + 256 * (p6 + 256 * p7)))))) < 1157442765409226768 ∧
    fold (p0 + 256 * (p1 + 256 * (p2 + 256 * (p3 + 256 * (p4 + 256 * (p5 + 256 * (p6 + 256 * p7))))))) < 18446744073709551616 ∧
    fold (p0 + 256 * (p1 + 256 * (p2 + 256 * (p3 + 256 * (p4 + 256 * (p5 + 256 * (p6 + 256 * p7))))))) % 128 = p0 + p1 + p2 + p3 + p4 + p5 + p6 + p7 := by
  unfold fold
  have e1 : (p0 + 256 * (p1 + 256 * (p2 + 256 * (p3 + 256 * (p4 + 256 * (p5 + 256 * (p6 + 256 * p7))))))) / 256 = p1 + 256 * (p2 + 256 * (p3 + 256 * (p4 + 256 * (p5 + 256 * (p6 + 256 * p7))))) := by omega
  rw [e1]
  have e2 : p0 + 256 * (p1 + 256 * (p2 + 256 * (p3 + 256 * (p4 + 256 * (p5 + 256 * (p6 + 256 * p7)))))) + (p1 + 256 * (p2 + 256 * (p3 + 256 * (p4 + 256 * (p5 + 256 * (p6 + 256 * p7)))))) =
    (p0 + p1) + 256 * (p1 + p2) + 65536 * ((p2 + p3) + 256 * ((p3 + p4) + 256 * ((p4 + p5) + 256 * ((p5 + p6) + 256 * ((p6 + p7) + 256 * p7))))) := by omega
  rw [e2]
  have e3 : ((p0 + p1) + 256 * (p1 + p2) + 65536 * ((p2 + p3) + 256 * ((p3 + p4) + 256 * ((p4 + p5) + 256 * ((p5 + p6) + 256 * ((p6 + p7) + 256 * p7)))))) / 65536 = (p2 + p3) + 256 * ((p3 + p4) + 256 * ((p4 + p5) + 256 * ((p5 + p6) + 256 * ((p6 + p7) + 256 * p7)))) := by omega
  rw [e3]
  have e4 : ((p0 + p1) + 256 * (p1 + p2) + 65536 * ((p2 + p3) + 256 * ((p3 + p4) + 256 * ((p4 + p5) + 256 * ((p5 + p6) + 256 * ((p6 + p7) + 256 * p7)))))) + ((p2 + p3) + 256 * ((p3 + p4) + 256 * ((p4 + p5) + 256 * ((p5 + p6) + 256 * ((p6 + p7) + 256 * p7))))) =
    ((p0 + p1 + p2 + p3) + 256 * (p1 + p2 + p3 + p4) + 65536 * (p2 + p3 + p4 + p5) + 16777216 * (p3 + p4 + p5 + p6)) + 4294967296 * ((p4 + p5 + p6 + p7) + 256 * ((p5 + p6 + p7) + 256 * ((p6 + p7) + 256 * p7))) := by omega
  rw [e4]
  have e5 : (((p0 + p1 + p2 + p3) + 256 * (p1 + p2 + p3 + p4) + 65536 * (p2 + p3 + p4 + p5) + 16777216 * (p3 + p4 + p5 + p6)) + 4294967296 * ((p4 + p5 + p6 + p7) + 256 * ((p5 + p6 + p7) + 256 * ((p6 + p7) + 256 * p7)))) / 4294967296 = (p4 + p5 + p6 + p7) + 256 * ((p5 + p6 + p7) + 256 * ((p6 + p7) + 256 * p7)) := by omega
  rw [e5]
  clear e1 e2 e3 e4 e5
  refine ⟨by omega, by omega, by omega⟩

theorem bytes_s (n x : Nat) : bytes (n + 1) x = popN 8 (x % 256) + 256 * bytes n (x / 256) := rfl
theorem bytes_z (x : Nat) : bytes 0 x = 0 := rfl
theorem popN_8 (n w : Nat) : popN (8 + n) w = popN 8 (w % 256) + popN n (w / 256) := popN_add 8 n w
theorem popN_z (w : Nat) : popN 0 w = 0 := rfl

theorem step8 (n m w : Nat) : ∃ p w', p ≤ 8 ∧ bytes (n + 1) w = p + 256 * bytes n w' ∧ popN (8 + m) w = p + popN m w' :=
  ⟨popN 8 (w % 256), w / 256, popN_le 8 _, bytes_s n w, popN_8 m w⟩

theorem bytes_fold (w : Nat) : bytes 8 w < 1157442765409226768 ∧ fold (bytes 8 w) < 18446744073709551616 ∧ fold (bytes 8 w) % 128 = popN 64 w := by
  obtain ⟨p0, w1, b0, e0, f0⟩ := step8 7 56 w
  obtain ⟨p1, w2, b1, e1, f1⟩ := step8 6 48 w1
  obtain ⟨p2, w3, b2, e2, f2⟩ := step8 5 40 w2
  obtain ⟨p3, w4, b3, e3, f3⟩ := step8 4 32 w3
  obtain ⟨p4, w5, b4, e4, f4⟩ := step8 3 24 w4
  obtain ⟨p5, w6, b5, e5, f5⟩ := step8 2 16 w5
  obtain ⟨p6, w7, b6, e6, f6⟩ := step8 1 8 w6
  obtain ⟨p7, w8, b7, e7, f7⟩ := step8 0 0 w7
  simp only [Nat.reduceAdd, bytes_z, popN_z, Nat.mul_zero, Nat.add_zero] at e0 e1 e2 e3 e4 e5 e6 e7 f0 f1 f2 f3 f4 f5 f6 f7
  have h := fold_eq p0 p1 p2 p3 p4 p5 p6 p7 b0 b1 b2 b3 b4 b5 b6 b7
  have hb : bytes 8 w = p0 + 256 * (p1 + 256 * (p2 + 256 * (p3 + 256 * (p4 + 256 * (p5 + 256 * (p6 + 256 * p7)))))) := by
    rw [e0, e1, e2, e3, e4, e5, e6, e7]
  have hp : popN 64 w = p0 + p1 + p2 + p3 + p4 + p5 + p6 + p7 := by
    rw [f0, f1, f2, f3, f4, f5, f6, f7]
    simp only [Nat.add_assoc]
  rw [hb, hp]
  exact h

theorem rep85 : rep 85 8 = 6148914691236517205 := by decide +kernel
theorem rep51 : rep 51 8 = 3689348814741910323 := by decide +kernel
theorem rep15 : rep 15 8 = 1085102592571150095 := by decide +kernel
end M
end Go.Proofs.YthhilppeeffheaaDoor
