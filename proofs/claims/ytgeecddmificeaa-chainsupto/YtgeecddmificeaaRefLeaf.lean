/- The document's small functions: In, block. -/
import Derived.Test.YtgeecddmificeaaLeaf
import Derived.Test.YtgeecddmificeaaMath
namespace Go.Proofs.Ytgeecddmificeaa
open Go.RowKit
set_option linter.unusedVariables false

/-- a slice value that reads as these numbers -/
def Ints (w : World) (v : Value) (l : List Int) : Prop :=
  (l = [] ∧ v = .slice none 0 0) ∨ ∃ g cap, v = .slice (some ⟨g, 0, none⟩) l.length cap ∧ ∀ j, j < l.length → w.cell? ⟨g, j, none⟩ = some (.int .i64 (l.getD j 0))

set_option maxHeartbeats 400000 in
theorem in_any (l : List Int) (v : Value) (n : Int) (w : World) (hv : Ints w v l) (hl : l.length ≤ 1000) :
    Calls Try.prog 27 #[v, .int .i64 n] w fun e w' => e = .returned (.bool (decide (n ∈ l))) ∧ w' = w := by
  rcases hv with ⟨rfl, rfl⟩ | ⟨g, cap, rfl, hc⟩
  · go_enter Try.func27, Try.ntmps27
    go_wp2
    refine wp_loop_rounds 1 ?_
    rw [rounds_succ]
    go_wp2
    go_ret
    exact ⟨ret_bool (by simp), rfl⟩
  · go_enter Try.func27, Try.ntmps27
    go_wp2
    go_loop [5] (fun i => ∃ k : Nat, k ≤ l.length ∧ i = .int .i64 k ∧ n ∉ l.take k) (fun i => l.length - (intOf i).toNat)
    case atStart => exact ⟨0, Nat.zero_le _, rfl, by simp⟩
    case round =>
      obtain ⟨k, hk, rfl, hn⟩ := hrel
      by_cases hlt : k < l.length
      · have hck := hc k hlt
        have HN : Hid (n ∉ l.take k) := hn
        clear hn
        go_wp2
        · have hb : (l[k] == n) = true := by assumption
          go_ret
          refine ⟨ret_bool ?_, rfl⟩
          have e : l[k] = n := by simpa using hb
          rw [eq_comm, decide_eq_true_eq, ← e]
          exact List.getElem_mem hlt
        · have hb : (l[k] == n) = false := by assumption
          go_round
          case rel =>
            refine ⟨k + 1, by omega, by go_num, ?_⟩
            rw [List.take_succ_eq_append_getElem hlt, List.mem_append]
            rintro (h | h)
            · exact HN.out h
            · simp at h
              simp [h] at hb
          case measure => simp [intOf]; omega
      · go_wp2
        go_ret
        refine ⟨ret_bool ?_, rfl⟩
        rw [List.take_of_length_le (by omega)] at hn
        simp [hn]

theorem in_is (b : Bool) (l : List Int) (v : Value) (n : Int) (w : World) (hv : Ints w v l) (hl : l.length ≤ 1000) (h : decide (n ∈ l) = b) :
    Calls Try.prog 27 #[v, .int .i64 n] w fun e w' => e = .returned (.bool b) ∧ w' = w := by
  rw [← h]; exact in_any l v n w hv hl

set_option maxHeartbeats 400000 in
theorem block_any (s : ByteArray) (w : World) (hs : s.size = 3) :
    Calls Try.prog 26 #[.string s] w fun e w' => e = .returned (.bool (blkOk (byt s 0) (byt s 1) (byt s 2))) ∧ w' = w := by
  have h0 : 0 < s.size := by omega
  have h1 : 1 < s.size := by omega
  have h2 : 2 < s.size := by omega
  have e0 := byt_eq s 0 h0
  have e1 := byt_eq s 1 h1
  have e2 := byt_eq s 2 h2
  go_enter Try.func26, Try.ntmps26
  go_wp2
  all_goals
    go_ret
    refine ⟨ret_bool ?_, rfl⟩
    rw [Bool.eq_iff_iff, blkOk_iff]
    clear e0 e1 e2
    simp only [beq_iff_eq, decide_eq_true_eq, beq_eq_false_iff_ne, ne_eq, Bool.false_eq_true, false_iff] at *
    omega
end Go.Proofs.Ytgeecddmificeaa
