/- The document's turned. -/
import Derived.Test.YtgeecddmificeaaRefVotes
namespace Go.Proofs.Ytgeecddmificeaa
open Go.RowKit
set_option linter.unusedVariables false

/-- a list of nodes that holds a set, in whatever order -/
def Holds7 (l : List Nat) (s : Nat) : Prop := (∀ x, x ∈ l → x < 7) ∧ (∀ x, x < 7 → (x ∈ l ↔ s.testBit x = true)) ∧ l.length = sizeS s

theorem Holds7.listed {s : Nat} : Holds7 (listed s) s :=
  ⟨fun _ h => (mem_listed.1 h).1, fun _ hx => ⟨fun h => (mem_listed.1 h).2, fun h => mem_listed.2 ⟨hx, h⟩⟩, rfl⟩
theorem Holds7.push {l : List Nat} {s n : Nat} (h : Holds7 l s) (hs : s < 128) (hn : n < 7) (hm : n ∉ l) : Holds7 (l ++ [n]) (withS s n) := by
  have ht : s.testBit n = false := by
    cases e : s.testBit n
    · rfl
    · exact absurd ((h.2.1 n hn).2 e) hm
  refine ⟨fun x hx => ?_, fun x hx => ?_, by rw [sizeS_with hs hn, ht]; simp [h.2.2]⟩
  · rcases List.mem_append.1 hx with h' | h'
    · exact h.1 x h'
    · simp at h'; omega
  · rw [has_with hs hn hx, List.mem_append, h.2.1 x hx]
    by_cases e : x = n
    · subst e; simp
    · simp [e]
theorem Holds7.same {l : List Nat} {s n : Nat} (h : Holds7 l s) (hs : s < 128) (hn : n < 7) (hm : n ∈ l) : Holds7 l (withS s n) := by
  have ht := (h.2.1 n hn).1 hm
  refine ⟨h.1, fun x hx => ?_, by rw [sizeS_with hs hn, ht]; simp [h.2.2]⟩
  rw [has_with hs hn hx, h.2.1 x hx]
  by_cases e : x = n
  · subst e; simp [ht]
  · simp [e]
def without (l : List Nat) (n : Nat) : List Nat := l.filter (fun x => x != n)
theorem without_len : ∀ (l : List Nat) (n : Nat), l.Nodup → n ∈ l → (without l n).length + 1 = l.length
  | [], n, _, h => by simp at h
  | a :: l, n, hd, h => by
    have hd' := List.nodup_cons.1 hd
    by_cases e : a = n
    · subst e
      have : without l a = l := List.filter_eq_self.2 fun x hx => by simp; intro e; exact hd'.1 (e ▸ hx)
      have h2 : without (a :: l) a = without l a := by simp [without]
      rw [h2, this]; simp
    · have h2 : without (a :: l) n = a :: without l n := by simp [without, e]
      have hm : n ∈ l := by simpa [Ne.symm e] using h
      rw [h2, List.length_cons, without_len l n hd'.2 hm, List.length_cons]
/-- the document's list as it goes: no node twice -/
def Walks7 (l : List Nat) (s : Nat) : Prop := l.Nodup ∧ Holds7 l s
theorem Walks7.listed {s : Nat} : Walks7 (listed s) s := ⟨List.Pairwise.filter _ List.nodup_range, Holds7.listed⟩
theorem Walks7.push {l : List Nat} {s n : Nat} (h : Walks7 l s) (hs : s < 128) (hn : n < 7) (hm : n ∉ l) : Walks7 (l ++ [n]) (withS s n) := by
  refine ⟨?_, h.2.push hs hn hm⟩
  rw [List.nodup_append]
  refine ⟨h.1, by simp, fun a ha b hb => ?_⟩
  simp at hb
  intro e
  exact hm (hb ▸ e ▸ ha)
theorem Walks7.same {l : List Nat} {s n : Nat} (h : Walks7 l s) (hs : s < 128) (hn : n < 7) (hm : n ∈ l) : Walks7 l (withS s n) := ⟨h.1, h.2.same hs hn hm⟩
theorem Walks7.drop {l : List Nat} {s n : Nat} (h : Walks7 l s) (hs : s < 128) (hn : n < 7) (hm : n ∈ l) : Walks7 (without l n) (withoutS s n) := by
  have ht := (h.2.2.1 n hn).1 hm
  refine ⟨List.Pairwise.filter _ h.1, fun x hx => h.2.1 x (List.mem_filter.1 hx).1, fun x hx => ?_, ?_⟩
  · rw [has_without hs hn hx, without, List.mem_filter, h.2.2.1 x hx]
    by_cases e : x = n
    · subst e; simp
    · simp [e]
  · have h1 := without_len l n h.1 hm
    have h2 := sizeS_without hs hn
    rw [ht] at h2
    simp at h2
    have h3 := h.2.2.2
    omega
theorem Walks7.len {l : List Nat} {s : Nat} (h : Walks7 l s) : l.length ≤ 7 := by rw [h.2.2.2]; exact sizeS_le
theorem Walks7.mem {l : List Nat} {s n : Nat} (h : Walks7 l s) (hn : n < 7) : decide (n ∈ l) = s.testBit n := by
  rw [Bool.eq_iff_iff, decide_eq_true_eq, h.2.2.1 n hn]
theorem without_snoc (l : List Nat) (k n : Nat) (hk : k < l.length) : without (l.take (k + 1)) n = if l[k] = n then without (l.take k) n else without (l.take k) n ++ [l[k]] := by
  rw [List.take_succ_eq_append_getElem hk]
  unfold without
  rw [List.filter_append]
  by_cases e : l[k] = n
  · rw [if_pos e]
    have : List.filter (fun x => x != n) [l[k]] = [] := by simp [e]
    rw [this, List.append_nil]
  · rw [if_neg e]
    have : List.filter (fun x => x != n) [l[k]] = [l[k]] := by simp [e]
    rw [this]
def listedTo (s k : Nat) : List Nat := (List.range k).filter (fun i => s.testBit i)
theorem listedTo_succ (s k : Nat) : listedTo s (k + 1) = if s.testBit k = true then listedTo s k ++ [k] else listedTo s k := by
  by_cases e : s.testBit k = true <;> simp [listedTo, List.range_succ, e]
theorem listedTo_len (s k : Nat) : (listedTo s k).length ≤ k := by
  have h := List.length_filter_le (fun i => s.testBit i) (List.range k)
  simpa [listedTo] using h
end Go.Proofs.Ytgeecddmificeaa
