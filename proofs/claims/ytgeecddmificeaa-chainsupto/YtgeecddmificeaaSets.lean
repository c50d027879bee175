/- Sets of seven nodes as numbers below 128: plain facts, without the program. -/
import Derived.KernelRfl
namespace Go.Proofs.Ytgeecddmificeaa
set_option linter.unusedVariables false

/-- the nodes of a set, by rising numbers -/
def listed (s : Nat) : List Nat := (List.range 7).filter (fun i => s.testBit i)
def sizeS (s : Nat) : Nat := (listed s).length
def hasS (s : Nat) (n : Int) : Bool := decide (0 ≤ n) && decide (n < 7) && s.testBit n.toNat
def withS (s n : Nat) : Nat := s ||| (1 <<< n)
def withoutS (s n : Nat) : Nat := s &&& (127 ^^^ (1 <<< n))
def firstS (n : Nat) : Nat := (1 <<< n) - 1

theorem fin_all {p : Nat → Prop} {n : Nat} (h : ∀ i : Fin n, p i.1) {k : Nat} (hk : k < n) : p k := h ⟨k, hk⟩
theorem fin_all2 {p : Nat → Nat → Prop} {n m : Nat} (h : ∀ i : Fin n, ∀ j : Fin m, p i.1 j.1) {k l : Nat} (hk : k < n) (hl : l < m) : p k l := h ⟨k, hk⟩ ⟨l, hl⟩

theorem withS_lt {s n : Nat} (hs : s < 128) (hn : n < 7) : withS s n < 128 :=
  fin_all2 (p := fun s n => withS s n < 128) (by decide +kernel) hs hn
theorem withoutS_lt {s n : Nat} (hs : s < 128) (hn : n < 7) : withoutS s n < 128 :=
  fin_all2 (p := fun s n => withoutS s n < 128) (by decide +kernel) hs hn
theorem sizeS_le {s : Nat} : sizeS s ≤ 7 := by
  have h := List.length_filter_le (fun i => s.testBit i) (List.range 7)
  simpa [sizeS, listed] using h
theorem sizeS_with {s n : Nat} (hs : s < 128) (hn : n < 7) : sizeS (withS s n) = sizeS s + if s.testBit n then 0 else 1 :=
  fin_all2 (p := fun s n => sizeS (withS s n) = sizeS s + if s.testBit n then 0 else 1) (by decide +kernel) hs hn
theorem sizeS_without {s n : Nat} (hs : s < 128) (hn : n < 7) : sizeS (withoutS s n) + (if s.testBit n then 1 else 0) = sizeS s :=
  fin_all2 (p := fun s n => sizeS (withoutS s n) + (if s.testBit n then 1 else 0) = sizeS s) (by decide +kernel) hs hn
theorem has_with {s n m : Nat} (hs : s < 128) (hn : n < 7) (hm : m < 7) : (withS s n).testBit m = (decide (m = n) || s.testBit m) :=
  fin_all2 (p := fun s n => ∀ m : Fin 7, (withS s n).testBit m = (decide (m.1 = n) || s.testBit m)) (by decide +kernel) hs hn ⟨m, hm⟩
theorem has_without {s n m : Nat} (hs : s < 128) (hn : n < 7) (hm : m < 7) : (withoutS s n).testBit m = (!decide (m = n) && s.testBit m) :=
  fin_all2 (p := fun s n => ∀ m : Fin 7, (withoutS s n).testBit m = (!decide (m.1 = n) && s.testBit m)) (by decide +kernel) hs hn ⟨m, hm⟩
theorem mem_listed {s n : Nat} : n ∈ listed s ↔ n < 7 ∧ s.testBit n = true := by simp [listed]
theorem listed_first {n : Nat} (hn : n < 8) : listed (firstS n) = List.range n :=
  fin_all (p := fun n => listed (firstS n) = List.range n) (by decide +kernel) hn
theorem firstS_lt {n : Nat} (hn : n < 8) : firstS n < 128 :=
  fin_all (p := fun n => firstS n < 128) (by decide +kernel) hn
end Go.Proofs.Ytgeecddmificeaa
