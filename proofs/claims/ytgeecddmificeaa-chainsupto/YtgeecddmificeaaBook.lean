/- The law's book: what lists lie in it; sameInts, stays. -/
import Derived.Test.YtgeecddmificeaaMembers
import Derived.Deep.QuietTactic
import Derived.BigQuiet
import Derived.WalkSmall
namespace Go.Proofs.Ytgeecddmificeaa
open Go.RowKit Go.Shelf
set_option linter.unusedVariables false

/-- a list of n numbers x, its array below block 'top' -/
def Marked (w : World) (top : Nat) (v : Value) (x : Int) : Prop :=
  ∃ n, w.ownsRow 0 3 1 v n (List.replicate n (.int .i64 x)) ∧ n ≤ 1000 ∧ ∀ g, v.ownBlock = some g → g < top
theorem Marked.slice {w : World} {top : Nat} {v : Value} {x : Int} (h : Marked w top v x) : ∃ ao n cap, v = .slice ao n cap ∧ n ≤ 1000 ∧ (0 < n → ∃ g, ao = some ⟨g, 0, none⟩ ∧ ∀ j, j < n → w.cell? ⟨g, j, none⟩ = some (.int .i64 x)) := by
  obtain ⟨n, hown, hn, _⟩ := h
  have h2 := hown
  rcases hown.2 with ⟨rfl, h0⟩ | ⟨g, cap, cur, rfl, _⟩
  · exact ⟨none, 0, 0, rfl, by omega, fun h => by omega⟩
  · refine ⟨_, n, cap, rfl, hn, fun _ => ⟨g, rfl, fun j hj => ?_⟩⟩
    rw [h2.cellAt j (by omega)]
    simp [hj]
theorem Marked.mono {w : World} {top top' : Nat} {v : Value} {x : Int} (h : Marked w top v x) (ht : top ≤ top') : Marked w top' v x := by
  obtain ⟨n, h1, h2, h3⟩ := h
  exact ⟨n, h1, h2, fun g hg => Nat.lt_of_lt_of_le (h3 g hg) ht⟩
theorem Marked.kept {w w' : World} {top : Nat} {v : Value} {x : Int} {row : Option Nat} (h : Marked w top v x) (hg : w.grownBy w' row) (hne : v.ownBlock = none ∨ v.ownBlock ≠ row) : Marked w' top v x := by
  obtain ⟨n, h1, h2, h3⟩ := h
  exact ⟨n, h1.kept hg hne, h2, h3⟩

/-- the mark of a place -/
def markOf (i : Nat) : Int := -1 - ((i / 4 * 4 : Nat) : Int)

/-- THE BOOK (its lists of numbers; of the others there are none): block K; its own row from 'base' on; the lists' arrays below 'top'. -/
structure BookI (w : World) (K base top : Nat) (L : List Value) : Prop where
  book : ∃ kv, w.heap[K]? = some (.cells #[kv, .slice none 0 0, .slice none 0 0] 28 (0, 0)) ∧ w.ownsRow base 45 1 kv L.length L
  lists : ∀ i (h : i < L.length), Marked w top L[i] (markOf i)
  top_le : top ≤ w.heap.size

theorem grownBy_below {w w' : World} (h : Below w.heap.size w w') : w.grownBy w' none := ⟨h.os, h.tape, h.output, h.size, fun k hk _ => h.block k hk⟩
theorem BookI.below {w w' : World} {K base top : Nat} {L : List Value} (h : BookI w K base top L) (hb : Below w.heap.size w w') : BookI w' K base top L := by
  obtain ⟨⟨kv, h1, h2⟩, h3, h4⟩ := h
  refine ⟨⟨kv, (hb.block K (lt_of_block h1)).trans h1, ownsRow_below h2 hb⟩, fun i hi => (h3 i hi).kept (grownBy_below hb) ?_, Nat.le_trans h4 hb.size⟩
  cases hv : (L[i]).ownBlock with
  | none => exact .inl rfl
  | some g => exact .inr (by simp)
theorem BookI.top_mono {w : World} {K base top top' : Nat} {L : List Value} (h : BookI w K base top L) (ht : top ≤ top') (hw : top' ≤ w.heap.size) : BookI w K base top' L :=
  ⟨h.book, fun i hi => (h.lists i hi).mono ht, hw⟩

theorem below_drewN' (w : World) (n : Nat) : Below w.heap.size w (w.drewN n) := below_drewN (Below.refl _ w) n

set_option maxRecDepth 100000 in
set_option maxHeartbeats 1000000 in
theorem sameInts_same (l : List Int) (a b : Value) (w : World) (ha : Ints w a l) (hb : Ints w b l) (hl : l.length ≤ 1000) :
    Calls Try.prog 13 #[a, b] w fun e w' => e = .returned (.bool true) ∧ Below w.heap.size w w' := by
  by_cases h0 : l.length = 0
  · have e : l = [] := List.length_eq_zero_iff.1 h0
    subst e
    have fa : ∃ ao ca, a = .slice ao 0 ca := by
      rcases ha with ⟨_, rfl⟩ | ⟨g, cap, rfl, _⟩
      · exact ⟨_, _, rfl⟩
      · exact ⟨_, _, rfl⟩
    have fb : ∃ ao ca, b = .slice ao 0 ca := by
      rcases hb with ⟨_, rfl⟩ | ⟨g, cap, rfl, _⟩
      · exact ⟨_, _, rfl⟩
      · exact ⟨_, _, rfl⟩
    obtain ⟨ao, ca, rfl⟩ := fa
    obtain ⟨bo, cb, rfl⟩ := fb
    clear ha hb
    go_enter Try.func13, Try.ntmps13
    go_wp2
    refine wp_loop_rounds 1 ?_
    rw [rounds_succ]
    go_wp2
    go_ret
    exact ⟨rfl, Below.refl _ _⟩
  · rcases ha with ⟨rfl, _⟩ | ⟨g, cap, rfl, hca⟩
    · simp at h0
    rcases hb with ⟨rfl, _⟩ | ⟨g2, cap2, rfl, hcb⟩
    · simp at h0
    have HA := hide hca
    have HB := hide hcb
    clear hca hcb
    go_enter Try.func13, Try.ntmps13
    go_wp2
    go_loopw [5] (fun i wr => ∃ (k n : Nat), k ≤ l.length ∧ i = .int .i64 (k : Int) ∧ wr = w.drewN n) (fun i _ => l.length - (intOf i).toNat)
    case atStart => exact ⟨0, 0, by omega, rfl, rfl⟩
    case round =>
      obtain ⟨k, n, hk, rfl, rfl⟩ := hrel
      by_cases hlt : k < l.length
      · have ca := HA.out k hlt
        have cb := HB.out k hlt
        obtain ⟨x, hx⟩ : ∃ x, l.getD k 0 = x := ⟨_, rfl⟩
        rw [hx] at ca cb
        clear hx
        have i0 : (0 : Int) ≤ (k : Int) := by omega
        have i1 : (k : Int) < (l.length : Int) := by omega
        go_wp2
        go_quiet (fail)
        go_wp2
        go_roundw
        case rel => exact ⟨k + 1, n + nq, by omega, by go_num, rfl⟩
        case measure => simp [intOf]; omega
      · go_wp2
        go_ret
        exact ⟨rfl, below_drewN' _ _⟩
end Go.Proofs.Ytgeecddmificeaa
