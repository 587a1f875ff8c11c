/- What Next and Ref return, the program's and the document's, for every descriptor and every number: the same functions; the world's old blocks are as they were. Condition: the package's two tables lie in their variables (for the program's calls). -/
import Derived.Test.YtpfmmlbakbhklaaGreatDoorOD5
import Derived.Test.YtpfmmlbakbhklaaGreatDoorOD6
import Derived.Test.YtpfmmlbakbhklaaGreatDoorOD7
namespace Go.Proofs.YtpfmmlbakbhklaaGreatDoor.O
open Go.RowKit

theorem rt_kind {d : Ds} (h : rt d = true) : btw d.k 0 5 = true := by
  have := (rt_iff d).1 h
  exact btw_yes.2 ⟨by omega, by omega⟩
theorem rt_refs {d : Ds} (h : rt d = true) : 0 ≤ d.r ∧ d.r ≤ 65535 := by
  have := (rt_iff d).1 h
  omega
theorem two_eq {d d' : Ds} {e e' : Int} (hd : d = d') (he : e = e') : Ending.returned (two d e) = .returned (two d' e') := by rw [hd, he]

theorem next_at (d : Ds) (k o : Int) (w : World) (hT : Tab w) :
    Calls Tryz.prog 153 #[dV d, .int .i64 k, .int .i64 o] w fun x w' => x = .returned (two (nx d k o) (nxE d k o)) ∧ Below w.heap.size w w' := by
  obtain ⟨n, hno⟩ : ∃ n, (k = 5 ∧ d.o = n ∨ (k == 5) = false ∧ o = n) := by
    by_cases h : k = 5
    · exact ⟨_, .inl ⟨h, rfl⟩⟩
    · exact ⟨_, .inr ⟨by simpa using h, rfl⟩⟩
  have hn : nxD d k o = ⟨k, n, 0, 0⟩ := by
    unfold nxD
    rcases hno with ⟨rfl, rfl⟩ | ⟨h, rfl⟩
    · simp
    · have h' : ¬ k = 5 := by simpa using h
      simp [h']
  cases h1 : rt d
  · have e : nxE d k o = 11 := by simp [nxE, h1]
    exact (next_form d.k d.o d.r d.e k o n w hT hno h1).mono fun x w' ⟨a, b⟩ => ⟨a.trans (two_eq (by simp [nx, e]) e.symm), b⟩
  · by_cases h2 : d.r = 0
    · have hk := rt_kind h1
      cases h3 : way d.k k
      · have e : nxE d k o = 6 := by simp [nxE, h1, h2, h3]
        exact (next_state d.k d.o d.r d.e k o n w hT hno h1 (by simp [h2]) h3 hk).mono fun x w' ⟨a, b⟩ => ⟨a.trans (two_eq (by simp [nx, e]) e.symm), b⟩
      · cases h4 : rt ⟨k, n, 0, 0⟩
        · have e : nxE d k o = 1 := by simp [nxE, h1, h2, h3, hn, h4]
          exact (next_arg d.k d.o d.r d.e k o n w hT hno h1 (by simp [h2]) h3 h4 hk).mono fun x w' ⟨a, b⟩ => ⟨a.trans (two_eq (by simp [nx, e]) e.symm), b⟩
        · have e : nxE d k o = 0 := by simp [nxE, h1, h2, h3, hn, h4]
          exact (next_ok d.k d.o d.r d.e k o n w hT hno h1 (by simp [h2]) h3 h4 hk).mono fun x w' ⟨a, b⟩ => ⟨a.trans (two_eq (by simp [nx, e, hn]) e.symm), b⟩
    · have e : nxE d k o = 9 := by simp [nxE, h1, h2]
      exact (next_busy d.k d.o d.r d.e k o n w hT hno h1 (by simpa using h2)).mono fun x w' ⟨a, b⟩ => ⟨a.trans (two_eq (by simp [nx, e]) e.symm), b⟩

theorem rnext_at (d : Ds) (k o : Int) (w : World) :
    Calls Tryz.prog 116 #[dV d, .int .i64 k, .int .i64 o] w fun x w' => x = .returned (two (nx d k o) (nxE d k o)) ∧ Below w.heap.size w w' := by
  obtain ⟨n, hno⟩ : ∃ n, (k = 5 ∧ d.o = n ∨ (k == 5) = false ∧ o = n) := by
    by_cases h : k = 5
    · exact ⟨_, .inl ⟨h, rfl⟩⟩
    · exact ⟨_, .inr ⟨by simpa using h, rfl⟩⟩
  have hn : nxD d k o = ⟨k, n, 0, 0⟩ := by
    unfold nxD
    rcases hno with ⟨rfl, rfl⟩ | ⟨h, rfl⟩
    · simp
    · have h' : ¬ k = 5 := by simpa using h
      simp [h']
  cases h1 : rt d
  · have e : nxE d k o = 11 := by simp [nxE, h1]
    exact (rnext_form d.k d.o d.r d.e k o w h1).mono fun x w' ⟨a, b⟩ => ⟨a.trans (two_eq (by simp [nx, e]) e.symm), b⟩
  · have hr := rt_refs h1
    by_cases h2 : d.r = 0
    · have hk := rt_kind h1
      have h2' : ¬ 0 < d.r := by omega
      cases h3 : way d.k k
      · have e : nxE d k o = 6 := by simp [nxE, h1, h2, h3]
        exact (rnext_state d.k d.o d.r d.e k o w h1 h2' h3 hk).mono fun x w' ⟨a, b⟩ => ⟨a.trans (two_eq (by simp [nx, e]) e.symm), b⟩
      · cases h4 : rt ⟨k, n, 0, 0⟩
        · have e : nxE d k o = 1 := by simp [nxE, h1, h2, h3, hn, h4]
          exact (rnext_arg d.k d.o d.r d.e k o n w hno h1 h2' h3 h4 hk).mono fun x w' ⟨a, b⟩ => ⟨a.trans (two_eq (by simp [nx, e]) e.symm), b⟩
        · have e : nxE d k o = 0 := by simp [nxE, h1, h2, h3, hn, h4]
          exact (rnext_ok d.k d.o d.r d.e k o n w hno h1 h2' h3 h4 hk).mono fun x w' ⟨a, b⟩ => ⟨a.trans (two_eq (by simp [nx, e, hn]) e.symm), b⟩
    · have e : nxE d k o = 9 := by simp [nxE, h1, h2]
      exact (rnext_busy d.k d.o d.r d.e k o w h1 (by omega)).mono fun x w' ⟨a, b⟩ => ⟨a.trans (two_eq (by simp [nx, e]) e.symm), b⟩

theorem hiR_iff : ∀ n, n < 6 → ((hiR n == 0) = false ↔ (2 ≤ (n : Int) ∧ (n : Int) ≤ 4))
  | 0, _ => by decide
  | 1, _ => by decide
  | 2, _ => by decide
  | 3, _ => by decide
  | 4, _ => by decide
  | 5, _ => by decide
  | n + 6, h => absurd h (by omega)

end Go.Proofs.YtpfmmlbakbhklaaGreatDoor.O
