/- What chains.Members does entry by entry: plain mathematics. -/
import Derived.Test.YtgeecddmificeaaRefMembers
namespace Go.Proofs.Ytgeecddmificeaa
set_option linter.unusedVariables false

def stepC (c : ByteArray) (st : Option (Nat × List Blk)) (x : Nat) : Option (Nat × List Blk) :=
  match st with
  | none => none
  | some (s, ep) => if okAt c x = true ∧ s.testBit (byt c (3 * x) - 48) = true then
      (if (x + 1) % 3 = 0 then some (countS (ep ++ [blkAt c x]) s, []) else some (s, ep ++ [blkAt c x])) else none
def runC (c : ByteArray) (s0 : Nat) (l : List Nat) : Option (Nat × List Blk) := l.foldl (stepC c) (some (s0, []))
theorem runC_snoc (c : ByteArray) (s0 : Nat) (l : List Nat) (x : Nat) : runC c s0 (l ++ [x]) = stepC c (runC c s0 l) x := by simp [runC]
theorem foldl_none (c : ByteArray) : ∀ l : List Nat, l.foldl (stepC c) none = none
  | [] => rfl
  | _ :: r => foldl_none c r
theorem runC_none {c : ByteArray} {s0 : Nat} {l r : List Nat} (h : runC c s0 l = none) : runC c s0 (l ++ r) = none := by
  unfold runC at *
  rw [List.foldl_append, h, foldl_none]
def GoodC (n : Nat) (st : Option (Nat × List Blk)) : Prop := ∀ s ep, st = some (s, ep) → s < 128 ∧ ep.length ≤ n ∧ ∀ b ∈ ep, b.1 < 7
theorem GoodC.step {c : ByteArray} {n x : Nat} {st : Option (Nat × List Blk)} (hg : GoodC n st) : GoodC (n + 1) (stepC c st x) := by
  intro s ep h
  cases st with
  | none => cases h
  | some q =>
    obtain ⟨s', ep'⟩ := q
    obtain ⟨i1, i2, i3⟩ := hg s' ep' rfl
    simp only [stepC] at h
    split at h
    · rename_i hc
      have hb : (blkAt c x).1 < 7 := by
        have := blkOk_iff.1 hc.1
        show byt c (3 * x) - 48 < 7
        omega
      split at h
      · simp only [Option.some.injEq, Prod.mk.injEq] at h
        obtain ⟨rfl, rfl⟩ := h
        exact ⟨countS_lt i1, by simp, by simp⟩
      · simp only [Option.some.injEq, Prod.mk.injEq] at h
        obtain ⟨rfl, rfl⟩ := h
        refine ⟨i1, by simp; omega, fun b hb' => ?_⟩
        rcases List.mem_append.1 hb' with h' | h'
        · exact i3 b h'
        · simp at h'; rw [h']; exact hb
    · cases h
theorem GoodC.run {c : ByteArray} : ∀ (l : List Nat) (n : Nat) (st : Option (Nat × List Blk)), GoodC n st → GoodC (n + l.length) (l.foldl (stepC c) st)
  | [], _, _, h => h
  | x :: r, n, st, h => by
    have := GoodC.run (c := c) r (n + 1) (stepC c st x) h.step
    rw [List.length_cons, show n + (r.length + 1) = n + 1 + r.length by omega]
    exact this
theorem runC_facts {c : ByteArray} {s0 : Nat} (h0 : s0 < 128) (l : List Nat) (s : Nat) (ep : List Blk) (h : runC c s0 l = some (s, ep)) : s < 128 ∧ ep.length ≤ l.length ∧ ∀ b ∈ ep, b.1 < 7 := by
  have hg : GoodC 0 (some (s0, ([] : List Blk))) := by
    intro s ep h
    simp only [Option.some.injEq, Prod.mk.injEq] at h
    obtain ⟨rfl, rfl⟩ := h
    exact ⟨h0, by simp, by simp⟩
  have := GoodC.run (c := c) l 0 _ hg s ep h
  simpa using this

/-- the blocks since the last epoch's end -/
def sinceE (c : ByteArray) (k : Nat) : List Blk := (List.range (k % 3)).map (fun i => blkAt c (k - k % 3 + i))
theorem runC_range (c : ByteArray) (s0 : Nat) : ∀ k, runC c s0 (List.range k) = (memTo c s0 k).map (fun s => (s, sinceE c k))
  | 0 => by simp [runC, memTo, sinceE]
  | k + 1 => by
    rw [List.range_succ, runC_snoc, runC_range c s0 k, memTo]
    cases hm : memTo c s0 k with
    | none => rfl
    | some s =>
      simp only [Option.map_some, stepC]
      by_cases hc : okAt c k = true ∧ s.testBit (byt c (3 * k) - 48) = true
      · rw [if_pos hc, if_pos hc]
        by_cases h3 : (k + 1) % 3 = 0
        · rw [if_pos h3, if_pos h3]
          have e2 : k % 3 = 2 := by omega
          have e : sinceE c k ++ [blkAt c k] = [blkAt c (k - 2), blkAt c (k - 1), blkAt c k] := by
            unfold sinceE
            rw [e2]
            have e3 : k - 2 + 1 = k - 1 := by omega
            show [blkAt c (k - 2 + 0), blkAt c (k - 2 + 1)] ++ [blkAt c k] = _
            rw [e3]; rfl
          rw [e]
          have e0 : sinceE c (k + 1) = [] := by unfold sinceE; rw [h3]; rfl
          simp [e0]
        · rw [if_neg h3, if_neg h3]
          have e : sinceE c k ++ [blkAt c k] = sinceE c (k + 1) := by
            unfold sinceE
            have e1 : (k + 1) % 3 = k % 3 + 1 := by omega
            have e2 : k + 1 - (k % 3 + 1) = k - k % 3 := by omega
            have e3 : k - k % 3 + k % 3 = k := by omega
            rw [e1, e2, List.range_succ, List.map_append, List.map_cons, List.map_nil, e3]
          simp [e]
      · rw [if_neg hc, if_neg hc]; rfl
end Go.Proofs.Ytgeecddmificeaa
