/- chains.Members. -/
import Derived.Test.YtgeecddmificeaaRead
import Derived.Test.YtgeecddmificeaaRun
namespace Go.Proofs.Ytgeecddmificeaa
open Go.RowKit Go.Shelf
set_option linter.unusedVariables false

set_option maxHeartbeats 1000000 in
theorem chMembers_no (n : Int) (c : ByteArray) (w : World) (hn : n < 4 ∨ 7 < n) :
    Calls Try.prog 22 #[.int .i64 n, .string c] w fun e w' => e = .returned (.tuple #[.int .i64 0, .int .i64 1]) ∧ Below w.heap.size w w' := by
  rcases hn with h | h
  · go_enter Try.func22, Try.ntmps22
    go_wp2
    exact bodyPost_ret (v := .tuple #[.int .i64 0, .int .i64 1]) (by simp [results, Try.results22, go_sem]) rfl ⟨rfl, ((Below.refl _ w).alloc (Nat.le_refl _) _).alloc (by simp) _⟩
  · have h' : ¬ n < 4 := by omega
    go_enter Try.func22, Try.ntmps22
    go_wp2
    exact bodyPost_ret (v := .tuple #[.int .i64 0, .int .i64 1]) (by simp [results, Try.results22, go_sem]) rfl ⟨rfl, ((Below.refl _ w).alloc (Nat.le_refl _) _).alloc (by simp) _⟩

set_option maxHeartbeats 1000000 in
theorem chMembers_bad (n : Nat) (c : ByteArray) (w : World) (h4 : 4 ≤ n) (h8 : n < 8) (hc : c.size ≤ maxLen) (hb : ¬ (c.size % 3 = 0 ∧ c.size ≤ 18)) :
    Calls Try.prog 22 #[.int .i64 (n : Int), .string c] w fun e w' => e = .returned (.tuple #[.int .i64 0, .int .i64 5]) ∧ Below w.heap.size w w' := by
  have hmx : c.size ≤ 2 ^ 63 - 1 := by unfold maxLen at hc; exact hc
  by_cases h3 : c.size % 3 = 0
  · have h18 : 6 < c.size / 3 := by omega
    obtain ⟨m, hm⟩ : ∃ m, c.size / 3 = m := ⟨_, rfl⟩
    have HM := hide hm
    rw [hm] at h18
    clear hb hm
    go_enter Try.func22, Try.ntmps22
    go_wp2_with (go_at_call 37; refine (blocks_is m c _ hc HM.out).mono ?_; rintro e w' ⟨rfl, rfl⟩)
    exact bodyPost_ret (v := .tuple #[.int .i64 0, .int .i64 5]) (by simp [results, Try.results22, go_sem]) rfl ⟨rfl, ((Below.refl _ w).alloc (Nat.le_refl _) _).alloc (by simp) _⟩
  · clear hb
    go_enter Try.func22, Try.ntmps22
    go_wp2
    exact bodyPost_ret (v := .tuple #[.int .i64 0, .int .i64 5]) (by simp [results, Try.results22, go_sem]) rfl ⟨rfl, ((Below.refl _ w).alloc (Nat.le_refl _) _).alloc (by simp) _⟩
end Go.Proofs.Ytgeecddmificeaa
