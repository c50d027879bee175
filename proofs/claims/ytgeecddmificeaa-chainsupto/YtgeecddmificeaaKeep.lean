/- The law's keepInts. -/
import Derived.Test.YtgeecddmificeaaStays
namespace Go.Proofs.Ytgeecddmificeaa
open Go.RowKit Go.Shelf
set_option linter.unusedVariables false

theorem Try.info45 : (Try.prog.info? 45).map (fun i => (i.zero, i.size, i.bytes)) = some (some (.slice none 0 0), 1, 24) := by kernel_rfl

/-- what is handed to keepInts: nothing, or a list of the call's own without spare room, its array from block 'top' on -/
def Fresh (w : World) (top : Nat) (v : Value) (n : Nat) (xs : List Value) : Prop :=
  (v = .slice none 0 0 ∧ n = 0 ∧ xs = []) ∨ ∃ g, v = .slice (some ⟨g, 0, none⟩) n n ∧ top ≤ g ∧ w.ownsRow 0 3 1 v n xs

theorem Fresh.slice {w : World} {top n : Nat} {v : Value} {xs : List Value} (h : Fresh w top v n xs) : ∃ ao, v = .slice ao n n ∧ (ao = none → n = 0) := by
  rcases h with ⟨rfl, rfl, _⟩ | ⟨g, rfl, _⟩
  · exact ⟨none, rfl, fun _ => rfl⟩
  · exact ⟨_, rfl, fun h => by cases h⟩

/-- a store into a fresh list's array leaves the book -/
theorem BookI.setCell {w : World} {K base top g j : Nat} {L : List Value} {u : Value} (h : BookI w K base top L) {cur : Array Value} (hg : w.heap[g]? = some (.cells cur 3 (0, 0))) (ht : top ≤ g) : BookI (w.setCell ⟨g, j, none⟩ u) K base top L := by
  obtain ⟨⟨kv, h1, h2⟩, h3, h4⟩ := h
  have hgr : w.grownBy (w.setCell ⟨g, j, none⟩ u) (some g) := ⟨rfl, rfl, rfl, (KeepsWalks.setCell w _ u).size, fun k _ hk => Below.heap_setCell _ _ _ k (fun e => hk (by rw [e]))⟩
  refine ⟨⟨kv, ?_, h2.kept hgr ?_⟩, fun i hi => (h3 i hi).kept hgr ?_, Nat.le_trans h4 hgr.size⟩
  · refine (hgr.block K (lt_of_block h1) ?_).trans h1
    intro e
    obtain rfl : K = g := by simpa using e
    rw [h1] at hg; simp at hg
  · rcases h2.2 with ⟨rfl, _⟩ | ⟨R, cap, cu, rfl, _, hR, _⟩
    · exact .inl rfl
    · refine .inr fun e => ?_
      obtain rfl : R = g := by simpa [Value.ownBlock] using e
      rw [hR] at hg; simp at hg
  · cases hv : (L[i]).ownBlock with
    | none => exact .inl rfl
    | some b =>
      refine .inr fun e => ?_
      obtain ⟨_, _, _, hb⟩ := h3 i hi
      have := hb b hv
      simp at e
      omega

theorem heap_set3 {w : World} {b : Nat} {x y z u : Value} {t : TypeId} (h : w.heap[b]? = some (.cells #[x, y, z] t (0, 0))) : (w.setCell ⟨b, 0, none⟩ u).heap[b]? = some (.cells #[u, y, z] t (0, 0)) := by
  obtain ⟨hlt, hk⟩ := Array.getElem?_eq_some_iff.1 h
  show (w.heap.modify b _)[b]? = _
  rw [Array.getElem?_eq_getElem (by rw [Array.size_modify]; exact hlt), Array.getElem_modify_self, hk]
  rfl
theorem grownBy_setCellAt (W : World) (b j : Nat) (v : Value) : W.grownBy (W.setCell ⟨b, j, none⟩ v) (some b) :=
  ⟨rfl, rfl, rfl, (KeepsWalks.setCell W _ v).size, fun k _ hk => Below.heap_setCell _ _ _ k (fun e => hk (by rw [e]))⟩
/-- a list of numbers is no block of another kind -/
theorem Marked.ne {w : World} {top : Nat} {v : Value} {x : Int} {b : Nat} {cs : Array Value} {t : TypeId} (h : Marked w top v x) (hb : w.heap[b]? = some (.cells cs t (0, 0))) (ht : t ≠ 3) : v.ownBlock = none ∨ v.ownBlock ≠ some b := by
  obtain ⟨n, hown, _⟩ := h
  rcases hown.2 with ⟨rfl, _⟩ | ⟨g, cap, cur, rfl, _, hg, _⟩
  · exact .inl rfl
  · refine .inr fun e => ?_
    obtain rfl : g = b := by simpa [Value.ownBlock] using e
    rw [hg] at hb
    simp at hb
    exact ht hb.2.symm
theorem Marked.ne_row {w : World} {top base n : Nat} {v kv : Value} {x : Int} {L : List Value} {t : TypeId} (h : Marked w top v x) (hr : w.ownsRow base t 1 kv n L) (ht : t ≠ 3) : v.ownBlock = none ∨ v.ownBlock ≠ kv.ownBlock := by
  rcases hr.2 with ⟨rfl, _⟩ | ⟨R, cap, cur, rfl, _, hR, _⟩
  · cases hv : v.ownBlock with
    | none => exact .inl rfl
    | some g => exact .inr (by simp [Value.ownBlock])
  · exact h.ne hR ht

theorem book_grown {w w5 : World} {K base n : Nat} {L : List Value} {kv a b : Value} {tmp : Obj} {t : TypeId} (hkv : w.heap[K]? = some (.cells #[kv, a, b] 28 (0, 0))) (hrow : w.ownsRow base t 1 kv n L) (ht : 28 ≠ t) (hgrow : (w.alloc tmp).grownBy w5 kv.ownBlock) :
    w5.heap[K]? = some (.cells #[kv, a, b] 28 (0, 0)) := by
  have hg1 := World.grownBy_alloc w tmp none
  have hK1 : (w.alloc tmp).heap[K]? = some (.cells #[kv, a, b] 28 (0, 0)) := (hg1.block K (lt_of_block hkv) (by simp)).trans hkv
  refine (hgrow.block K (lt_of_block hK1) ?_).trans hK1
  rcases (hrow.alloc tmp).2 with ⟨rfl, _⟩ | ⟨R, cap, cur, rfl, _, hR, _⟩
  · simp [Value.ownBlock]
  · intro e
    obtain rfl : K = R := by simpa [Value.ownBlock] using e
    rw [hK1] at hR
    simp at hR
    exact ht hR.2
theorem free_of_three {w : World} {b j : Nat} {x y z : Value} {t : TypeId} (h : w.heap[b]? = some (.cells #[x, y, z] t (0, 0))) : w.frozen? ⟨b, j, none⟩ = false := by simp [World.frozen?, h]
/-- FOUR LISTS MORE. -/
theorem BookI.push {w w5 : World} {K base top : Nat} {L N : List Value} {kv kv' : Value} {tmp : Obj} (h : BookI w K base top L)
    (hkv : w.heap[K]? = some (.cells #[kv, .slice none 0 0, .slice none 0 0] 28 (0, 0))) (hrow : w.ownsRow base 45 1 kv L.length L)
    (hN : ∀ i (hi : i < N.length), Marked w w.heap.size N[i] (markOf (L.length + i)))
    (hown : w5.ownsRow base 45 1 kv' (L.length + N.length) (L ++ N)) (hgrow : (w.alloc tmp).grownBy w5 kv.ownBlock) :
    BookI (w5.setCell ⟨K, 0, none⟩ kv') K base (w5.setCell ⟨K, 0, none⟩ kv').heap.size (L ++ N) := by
  have hg1 := World.grownBy_alloc w tmp none
  have hK1 : (w.alloc tmp).heap[K]? = some (.cells #[kv, .slice none 0 0, .slice none 0 0] 28 (0, 0)) := (hg1.block K (lt_of_block hkv) (by simp)).trans hkv
  have hr1 := hrow.alloc tmp
  have hK5 : w5.heap[K]? = some (.cells #[kv, .slice none 0 0, .slice none 0 0] 28 (0, 0)) := by
    refine (hgrow.block K (lt_of_block hK1) ?_).trans hK1
    rcases hr1.2 with ⟨rfl, _⟩ | ⟨R, cap, cur, rfl, _, hR, _⟩
    · simp [Value.ownBlock]
    · intro e
      obtain rfl : K = R := by simpa [Value.ownBlock] using e
      rw [hK1] at hR; simp at hR
  have hgs := grownBy_setCellAt w5 K 0 kv'
  have hkeep : ∀ v x, Marked w w.heap.size v x → Marked (w5.setCell ⟨K, 0, none⟩ kv') (w5.setCell ⟨K, 0, none⟩ kv').heap.size v x := by
    intro v x hm
    have m1 : Marked (w.alloc tmp) w.heap.size v x := hm.kept hg1 (by cases hv : v.ownBlock with
      | none => exact .inl rfl
      | some g => exact .inr (by simp))
    have m2 := m1.kept hgrow (m1.ne_row hr1 (by decide))
    have m3 := m2.kept hgs (m2.ne hK5 (by decide))
    refine m3.mono (Nat.le_trans hg1.size (Nat.le_trans hgrow.size hgs.size))
  refine ⟨⟨kv', heap_set3 hK5, ?_⟩, fun i hi => ?_, Nat.le_refl _⟩
  · rw [List.length_append]
    refine hown.kept hgs ?_
    rcases hown.2 with ⟨rfl, _⟩ | ⟨R, cap, cur, rfl, _, hR, _⟩
    · exact .inl rfl
    · refine .inr fun e => ?_
      obtain rfl : R = K := by simpa [Value.ownBlock] using e
      rw [hK5] at hR; simp at hR
  · by_cases hlt : i < L.length
    · have h1 := hkeep _ _ ((h.lists i hlt).mono h.top_le)
      rw [List.getElem_append_left hlt]
      exact h1
    · have h2 : i - L.length < N.length := by rw [List.length_append] at hi; omega
      have h1 := hkeep _ _ (hN (i - L.length) h2)
      rw [List.getElem_append_right (by omega)]
      rw [show L.length + (i - L.length) = i by omega] at h1
      exact h1
theorem set_step {X : Value} {xs : List Value} {k : Nat} (hk : k < xs.length) : (List.replicate k X ++ xs.drop k).set k X = List.replicate (k + 1) X ++ xs.drop (k + 1) := by
  rw [List.set_append_right _ _ (by simp)]
  simp only [List.length_replicate, Nat.sub_self]
  rw [List.drop_eq_getElem_cons hk, List.set_cons_zero, List.replicate_succ', List.append_assoc]
  rfl
theorem markOf_four {n i : Nat} (h : n % 4 = 0) (hi : i < 4) : markOf (n + i) = -1 - (n : Int) := by
  unfold markOf
  have : (n + i) / 4 * 4 = n := by omega
  rw [this]
end Go.Proofs.Ytgeecddmificeaa
