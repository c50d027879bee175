import Derived.Test.YtpecfjejfkcolaaPart14
/- The law's stays, where the book holds lists of numbers alone. -/
namespace Go.Proofs.Ytpecfjejfkcolaa
open Go.RowKit Go.Shelf
set_option linter.unusedVariables false

theorem cells_of_three {w : World} {b : Nat} {x y z : Value} {t : TypeId} (h : w.heap[b]? = some (.cells #[x, y, z] t (0, 0))) :
    w.cell? ⟨b, 0, none⟩ = some x ∧ w.cell? ⟨b, 1, none⟩ = some y ∧ w.cell? ⟨b, 2, none⟩ = some z := by
  refine ⟨?_, ?_, ?_⟩ <;> simp [World.cell?, h]
theorem row_slice {w : World} {base : Nat} {e : TypeId} {v : Value} {L : List Value} (h : w.ownsRow base e 1 v L.length L) :
    ∃ ao cap, v = .slice ao L.length cap ∧ (0 < L.length → ∃ R, ao = some ⟨R, 0, none⟩ ∧ ∀ i (hi : i < L.length), w.cell? ⟨R, i, none⟩ = some L[i]) := by
  have h' := h
  rcases h.2 with ⟨rfl, h0⟩ | ⟨g, cap, cur, rfl, _⟩
  · exact ⟨none, 0, by rw [h0], fun h => by omega⟩
  · refine ⟨_, cap, rfl, fun _ => ⟨g, rfl, fun i hi => ?_⟩⟩
    rw [h'.cellAt i (by omega), List.getElem?_eq_getElem hi]

set_option maxRecDepth 100000 in
set_option maxHeartbeats 1000000 in
theorem staysI_any (K base top : Nat) (L : List Value) (w : World) (hk : BookI w K base top L) (hL : L.length ≤ 100000000) :
    Calls Try.prog 8 #[.pointer (some ⟨K, 0, none⟩)] w fun e w' => e = .returned (.bool true) ∧ w' = w := by
  obtain ⟨⟨kv, hb, hrow⟩, hlists, _⟩ := hk
  obtain ⟨c0, c1, c2⟩ := cells_of_three hb
  obtain ⟨ao, cap, rfl, hcells⟩ := row_slice hrow
  have HC := hide hcells
  have HL := hide hlists
  clear hcells hlists hrow hb
  go_enter Try.func8, Try.ntmps8
  go_wp2
  go_loop [3] (fun i => ∃ k : Nat, k ≤ L.length ∧ i = .int .i64 (k : Int)) (fun i => L.length - (intOf i).toNat)
  case atStart => exact ⟨0, by omega, rfl⟩
  case round =>
    obtain ⟨k, hk, rfl⟩ := hrel
    by_cases hlt : k < L.length
    · obtain ⟨R, rfl, hcell⟩ := HC.out (by omega)
      have ck := hcell k hlt
      obtain ⟨ao2, n, cap2, hv, hn, hel⟩ := (HL.out k hlt).slice
      rw [hv] at ck
      have HEL := hide hel
      clear hcell hel
      have hkB : decide ((k : Int) < (L.length : Int)) = true := by simp; omega
      go_wp2
      go_loop [4] (fun i => ∃ j : Nat, j ≤ n ∧ i = .int .i64 (j : Int)) (fun i => n - (intOf i).toNat)
      case atStart => exact ⟨0, by omega, rfl⟩
      case round =>
        obtain ⟨j, hj, rfl⟩ := hrel
        by_cases hjl : j < n
        · obtain ⟨g, rfl, hcj⟩ := HEL.out (by omega)
          have cj := hcj j hjl
          have hx : markOf k = -1 - (k : Int) / 4 * 4 := by unfold markOf; simp
          rw [hx] at cj
          clear hx hcj
          go_wp2
          go_round
          case rel => exact ⟨j + 1, by omega, by go_num⟩
          case measure => simp [intOf]; omega
        · go_wp2
          go_round
          case rel => exact ⟨k + 1, by omega, by go_num⟩
          case measure => simp [intOf]; omega
    · go_wp2
      refine wp_loop_rounds 1 ?_
      rw [rounds_succ]
      go_wp2
      refine wp_loop_rounds 1 ?_
      rw [rounds_succ]
      go_wp2
      go_ret
      exact ⟨rfl, rfl⟩
end Go.Proofs.Ytpecfjejfkcolaa

/- The law's keepInts. -/
namespace Go.Proofs.Ytpecfjejfkcolaa
open Go.RowKit Go.Shelf
set_option linter.unusedVariables false

theorem Try.info45 : (Try.prog.info? 45).map (fun i => (i.zero, i.size, i.bytes)) = some (some (.slice none 0 0), 1, 24) := by kernel_rfl

/-- what is handed to keepInts: nothing, or a list of the call's own without spare room, its array from block 'top' on -/
def Fresh (w : World) (top : Nat) (v : Value) (n : Nat) (xs : List Value) : Prop :=
  (v = .slice none 0 0 ∧ n = 0 ∧ xs = []) ∨ ∃ g, v = .slice (some ⟨g, 0, none⟩) n n ∧ top ≤ g ∧ w.ownsRow 0 3 1 v n xs

theorem Fresh.slice {w : World} {top n : Nat} {v : Value} {xs : List Value} (h : Fresh w top v n xs) : ∃ ao, v = .slice ao n n ∧ (ao = none → n = 0) := by
  rcases h with ⟨rfl, rfl, _⟩ | ⟨g, rfl, _⟩
  · exact ⟨none, rfl, fun _ => rfl⟩
  · exact ⟨_, rfl, fun h => by cases h⟩

/-- a store into a fresh list's array leaves the book -/
theorem BookI.setCell {w : World} {K base top g j : Nat} {L : List Value} {u : Value} (h : BookI w K base top L) {cur : Array Value} (hg : w.heap[g]? = some (.cells cur 3 (0, 0))) (ht : top ≤ g) : BookI (w.setCell ⟨g, j, none⟩ u) K base top L := by
  obtain ⟨⟨kv, h1, h2⟩, h3, h4⟩ := h
  have hgr : w.grownBy (w.setCell ⟨g, j, none⟩ u) (some g) := ⟨rfl, rfl, rfl, (KeepsWalks.setCell w _ u).size, fun k _ hk => Below.heap_setCell _ _ _ k (fun e => hk (by rw [e]))⟩
  refine ⟨⟨kv, ?_, h2.kept hgr ?_⟩, fun i hi => (h3 i hi).kept hgr ?_, Nat.le_trans h4 hgr.size⟩
  · refine (hgr.block K (lt_of_block h1) ?_).trans h1
    intro e
    obtain rfl : K = g := by simpa using e
    rw [h1] at hg; simp at hg
  · rcases h2.2 with ⟨rfl, _⟩ | ⟨R, cap, cu, rfl, _, hR, _⟩
    · exact .inl rfl
    · refine .inr fun e => ?_
      obtain rfl : R = g := by simpa [Value.ownBlock] using e
      rw [hR] at hg; simp at hg
  · cases hv : (L[i]).ownBlock with
    | none => exact .inl rfl
    | some b =>
      refine .inr fun e => ?_
      obtain ⟨_, _, _, hb⟩ := h3 i hi
      have := hb b hv
      simp at e
      omega

theorem heap_set3 {w : World} {b : Nat} {x y z u : Value} {t : TypeId} (h : w.heap[b]? = some (.cells #[x, y, z] t (0, 0))) : (w.setCell ⟨b, 0, none⟩ u).heap[b]? = some (.cells #[u, y, z] t (0, 0)) := by
  obtain ⟨hlt, hk⟩ := Array.getElem?_eq_some_iff.1 h
  show (w.heap.modify b _)[b]? = _
  rw [Array.getElem?_eq_getElem (by rw [Array.size_modify]; exact hlt), Array.getElem_modify_self, hk]
  rfl
theorem grownBy_setCellAt (W : World) (b j : Nat) (v : Value) : W.grownBy (W.setCell ⟨b, j, none⟩ v) (some b) :=
  ⟨rfl, rfl, rfl, (KeepsWalks.setCell W _ v).size, fun k _ hk => Below.heap_setCell _ _ _ k (fun e => hk (by rw [e]))⟩
/-- a list of numbers is no block of another kind -/
theorem Marked.ne {w : World} {top : Nat} {v : Value} {x : Int} {b : Nat} {cs : Array Value} {t : TypeId} (h : Marked w top v x) (hb : w.heap[b]? = some (.cells cs t (0, 0))) (ht : t ≠ 3) : v.ownBlock = none ∨ v.ownBlock ≠ some b := by
  obtain ⟨n, hown, _⟩ := h
  rcases hown.2 with ⟨rfl, _⟩ | ⟨g, cap, cur, rfl, _, hg, _⟩
  · exact .inl rfl
  · refine .inr fun e => ?_
    obtain rfl : g = b := by simpa [Value.ownBlock] using e
    rw [hg] at hb
    simp at hb
    exact ht hb.2.symm
theorem Marked.ne_row {w : World} {top base n : Nat} {v kv : Value} {x : Int} {L : List Value} {t : TypeId} (h : Marked w top v x) (hr : w.ownsRow base t 1 kv n L) (ht : t ≠ 3) : v.ownBlock = none ∨ v.ownBlock ≠ kv.ownBlock := by
  rcases hr.2 with ⟨rfl, _⟩ | ⟨R, cap, cur, rfl, _, hR, _⟩
  · cases hv : v.ownBlock with
    | none => exact .inl rfl
    | some g => exact .inr (by simp [Value.ownBlock])
  · exact h.ne hR ht

theorem book_grown {w w5 : World} {K base n : Nat} {L : List Value} {kv a b : Value} {tmp : Obj} {t : TypeId} (hkv : w.heap[K]? = some (.cells #[kv, a, b] 28 (0, 0))) (hrow : w.ownsRow base t 1 kv n L) (ht : 28 ≠ t) (hgrow : (w.alloc tmp).grownBy w5 kv.ownBlock) :
    w5.heap[K]? = some (.cells #[kv, a, b] 28 (0, 0)) := by
  have hg1 := World.grownBy_alloc w tmp none
  have hK1 : (w.alloc tmp).heap[K]? = some (.cells #[kv, a, b] 28 (0, 0)) := (hg1.block K (lt_of_block hkv) (by simp)).trans hkv
  refine (hgrow.block K (lt_of_block hK1) ?_).trans hK1
  rcases (hrow.alloc tmp).2 with ⟨rfl, _⟩ | ⟨R, cap, cur, rfl, _, hR, _⟩
  · simp [Value.ownBlock]
  · intro e
    obtain rfl : K = R := by simpa [Value.ownBlock] using e
    rw [hK1] at hR
    simp at hR
    exact ht hR.2
theorem free_of_three {w : World} {b j : Nat} {x y z : Value} {t : TypeId} (h : w.heap[b]? = some (.cells #[x, y, z] t (0, 0))) : w.frozen? ⟨b, j, none⟩ = false := by simp [World.frozen?, h]
/-- FOUR LISTS MORE. -/
theorem BookI.push {w w5 : World} {K base top : Nat} {L N : List Value} {kv kv' : Value} {tmp : Obj} (h : BookI w K base top L)
    (hkv : w.heap[K]? = some (.cells #[kv, .slice none 0 0, .slice none 0 0] 28 (0, 0))) (hrow : w.ownsRow base 45 1 kv L.length L)
    (hN : ∀ i (hi : i < N.length), Marked w w.heap.size N[i] (markOf (L.length + i)))
    (hown : w5.ownsRow base 45 1 kv' (L.length + N.length) (L ++ N)) (hgrow : (w.alloc tmp).grownBy w5 kv.ownBlock) :
    BookI (w5.setCell ⟨K, 0, none⟩ kv') K base (w5.setCell ⟨K, 0, none⟩ kv').heap.size (L ++ N) := by
  have hg1 := World.grownBy_alloc w tmp none
  have hK1 : (w.alloc tmp).heap[K]? = some (.cells #[kv, .slice none 0 0, .slice none 0 0] 28 (0, 0)) := (hg1.block K (lt_of_block hkv) (by simp)).trans hkv
  have hr1 := hrow.alloc tmp
  have hK5 : w5.heap[K]? = some (.cells #[kv, .slice none 0 0, .slice none 0 0] 28 (0, 0)) := by
    refine (hgrow.block K (lt_of_block hK1) ?_).trans hK1
    rcases hr1.2 with ⟨rfl, _⟩ | ⟨R, cap, cur, rfl, _, hR, _⟩
    · simp [Value.ownBlock]
    · intro e
      obtain rfl : K = R := by simpa [Value.ownBlock] using e
      rw [hK1] at hR; simp at hR
  have hgs := grownBy_setCellAt w5 K 0 kv'
  have hkeep : ∀ v x, Marked w w.heap.size v x → Marked (w5.setCell ⟨K, 0, none⟩ kv') (w5.setCell ⟨K, 0, none⟩ kv').heap.size v x := by
    intro v x hm
    have m1 : Marked (w.alloc tmp) w.heap.size v x := hm.kept hg1 (by cases hv : v.ownBlock with
      | none => exact .inl rfl
      | some g => exact .inr (by simp))
    have m2 := m1.kept hgrow (m1.ne_row hr1 (by decide))
    have m3 := m2.kept hgs (m2.ne hK5 (by decide))
    refine m3.mono (Nat.le_trans hg1.size (Nat.le_trans hgrow.size hgs.size))
  refine ⟨⟨kv', heap_set3 hK5, ?_⟩, fun i hi => ?_, Nat.le_refl _⟩
  · rw [List.length_append]
    refine hown.kept hgs ?_
    rcases hown.2 with ⟨rfl, _⟩ | ⟨R, cap, cur, rfl, _, hR, _⟩
    · exact .inl rfl
    · refine .inr fun e => ?_
      obtain rfl : R = K := by simpa [Value.ownBlock] using e
      rw [hK5] at hR; simp at hR
  · by_cases hlt : i < L.length
    · have h1 := hkeep _ _ ((h.lists i hlt).mono h.top_le)
      rw [List.getElem_append_left hlt]
      exact h1
    · have h2 : i - L.length < N.length := by rw [List.length_append] at hi; omega
      have h1 := hkeep _ _ (hN (i - L.length) h2)
      rw [List.getElem_append_right (by omega)]
      rw [show L.length + (i - L.length) = i by omega] at h1
      exact h1
theorem set_step {X : Value} {xs : List Value} {k : Nat} (hk : k < xs.length) : (List.replicate k X ++ xs.drop k).set k X = List.replicate (k + 1) X ++ xs.drop (k + 1) := by
  rw [List.set_append_right _ _ (by simp)]
  simp only [List.length_replicate, Nat.sub_self]
  rw [List.drop_eq_getElem_cons hk, List.set_cons_zero, List.replicate_succ', List.append_assoc]
  rfl
theorem markOf_four {n i : Nat} (h : n % 4 = 0) (hi : i < 4) : markOf (n + i) = -1 - (n : Int) := by
  unfold markOf
  have : (n + i) / 4 * 4 = n := by omega
  rw [this]
end Go.Proofs.Ytpecfjejfkcolaa

/- The law's keepInts, walked. -/
namespace Go.Proofs.Ytpecfjejfkcolaa
open Go.RowKit Go.Shelf
set_option linter.unusedVariables false

theorem cell_four_new (w : World) (a b c d : Value) (t : TypeId) : ∀ j u, [a, b, c, d][j]? = some u → (w.alloc (.cells #[a, b, c, d] t)).cell? ((⟨w.heap.size, 0, none⟩ : Addr).add j) = some u := by
  intro j u hj
  match j, hj with
  | 0, hj => simp at hj; subst hj; simp [Addr.add]
  | 1, hj => simp at hj; subst hj; simp [Addr.add]
  | 2, hj => simp at hj; subst hj; simp [Addr.add]
  | 3, hj => simp at hj; subst hj; simp [Addr.add]
  | n + 4, hj => simp at hj
theorem holds_of {w : World} {base n cap : Nat} {ao : Option Addr} {xs : List Value} (h : w.ownsRow base 3 1 (.slice ao n cap) n xs) : ∀ b, ao = some b → ∀ j u, xs[j]? = some u → w.cell? (b.add j) = some u := by
  intro b hb j u hj
  subst hb
  rcases h.2 with ⟨e, _⟩ | ⟨g, cp, cur, e, _⟩
  · cases e
  · injection e with e1 e2 e3
    cases e1
    exact h.cells rfl j u hj
theorem below_of_none {w w' : World} (h : w.grownBy w' none) : Below w.heap.size w w' := ⟨h.os, h.tape, h.output, h.size, fun k hk => h.block k hk (by simp)⟩
/-- an append that had to grow, behind the making of what is appended: nothing old has turned -/
theorem below_grows {w w' : World} {tmp : Obj} (h : (w.alloc tmp).grownBy w' none) : Below w.heap.size w w' :=
  ((Below.refl w.heap.size w).alloc (Nat.le_refl _) tmp).grown h (by simp) (fun k e => by cases e)
theorem marked_of {w : World} {base n k : Nat} {v : Value} {X : Int} (h : w.ownsRow base 3 1 v (n + k) (List.replicate n (.int .i64 X) ++ List.replicate k (.int .i64 X))) (hn : n + k ≤ 1000) : Marked w w.heap.size v X := by
  rw [List.replicate_append_replicate] at h
  exact ⟨n + k, ownsRow_mono h (Nat.zero_le _), hn, fun g hg => (h.lt g hg).2⟩

set_option maxRecDepth 100000 in
set_option maxHeartbeats 2000000 in
theorem keepInts_any (K base top n : Nat) (L xs : List Value) (v : Value) (w : World) (hk : BookI w K base top L) (hv : Fresh w top v n xs) (hxs : xs.length = n) (hn : n ≤ 900) (hL : L.length ≤ 100000000) (h4 : L.length % 4 = 0) (hbK : base ≤ K) (hbt : base ≤ top) :
    Calls Try.prog 14 #[.pointer (some ⟨K, 0, none⟩), v] w fun e w' => e = .returned (.tuple #[]) ∧ Below base w w' ∧ ∃ L', BookI w' K base w'.heap.size L' ∧ L'.length = L.length + 4 := by
  obtain ⟨i0, hi, hz0, hz1, hz2⟩ := info_parts Try.info3
  obtain ⟨i5, hi5, hy0, hy1, hy2⟩ := info_parts Try.info45
  obtain ⟨ao, rfl, hao⟩ := hv.slice
  have hown0 : w.ownsRow 0 3 1 (.slice ao n n) n xs := by
    rcases hv with ⟨e, rfl, rfl⟩ | ⟨g, _, _, h⟩
    · rw [e]; exact World.ownsRow_nil _ _ _ _
    · exact h
  have HV := hide hv
  have HAO := hide hao
  obtain ⟨kv, hkb, hkr⟩ := hk.book
  obtain ⟨ko, kc, rfl, _⟩ := row_slice hkr
  have ck := (cells_of_three hkb).1
  have HK := hide hk
  have htop := hk.top_le
  have HXS := hide hxs
  have H4 := hide h4
  clear hv hao hkb hkr hk hxs h4
  go_enter Try.func14, Try.ntmps14
  go_wp2
  go_loopw [5] (fun i wr => ∃ (k : Nat), k ≤ n ∧ i = .int .i64 (k : Int) ∧ wr.ownsRow 0 3 1 (.slice ao n n) n (List.replicate k (.int .i64 (-1 - (L.length : Int))) ++ xs.drop k) ∧ BookI wr K base top L ∧ Below base w wr) (fun i _ => n - (intOf i).toNat)
  case atStart => exact ⟨0, by omega, rfl, by simpa using hown0, HK.out, Below.refl _ _⟩
  case round =>
    obtain ⟨k, hkn, rfl, hown, hbk, hB⟩ := hrel
    by_cases hlt : k < n
    · rcases HV.out with ⟨e, e2, _⟩ | ⟨g, e, hg, _⟩
      · omega
      injection e with e1 e2 e3
      subst e1
      have hc := hown.cellAt k (by omega)
      have hf := hown.frozenAt k
      have hst := hown.stored k (.int .i64 (-1 - (L.length : Int)))
      have hset := set_step (X := .int .i64 (-1 - (L.length : Int))) (xs := xs) (k := k) (by rw [HXS.out]; exact hlt)
      rw [hset] at hst
      obtain ⟨cv, hcv⟩ : ∃ cv, (List.replicate k (Value.int .i64 (-1 - (L.length : Int))) ++ xs.drop k)[k]? = some cv := by
        have hl := HXS.out
        exact ⟨_, List.getElem?_eq_getElem (by simp; omega)⟩
      rw [hcv] at hc
      have hblk : ∃ cur, wr.heap[g]? = some (.cells cur 3 (0, 0)) := by
        rcases hown.2 with ⟨e, _⟩ | ⟨g', c', cur, e, _, hh, _⟩
        · cases e
        · injection e with e1 e2 e3
          cases e1
          exact ⟨cur, hh⟩
      obtain ⟨cur, hblk⟩ := hblk
      have hbk2 := hbk.setCell (j := k) (u := .int .i64 (-1 - (L.length : Int))) hblk hg
      have HST := hide hst
      have HBK := hide hbk2
      clear hst hset hcv hbk2 hbk
      go_wp2
      go_roundw
      case rel => exact ⟨k + 1, by omega, by go_num, HST.out.1, HBK.out, hB.setCell (p := ⟨g, k, none⟩) (Nat.le_trans hbt hg) _⟩
      case measure => simp [intOf]; omega
    · have hrep : List.replicate k (Value.int .i64 (-1 - (L.length : Int))) ++ xs.drop k = List.replicate n (.int .i64 (-1 - (L.length : Int))) := by
        have e : k = n := by omega
        have hl := HXS.out
        rw [e, List.drop_eq_nil_iff.2 (by omega), List.append_nil]
      rw [hrep] at hown
      clear hrep
      have hsz := hB.size
      go_wp2_with (first
        | (at_builtin; refine wpList_append_grows _ rfl (.tmp 25) (.tmp 27) 45 rfl 3 i0 (.int .i64 0) 1 8 Try.underlying45 hi hz0 hz1 hz2 rfl (by decide) ao n n (List.replicate n (.int .i64 (-1 - (L.length : Int)))) rfl (fun h => ⟨HAO.out h, HAO.out h⟩) (by simp) (holds_of (World.ownsRow.alloc hown _)) ⟨_, 0, none⟩ 1 1 [(.int .i64 (-1 - (L.length : Int)))] rfl rfl (cell_one_new _ _ _) (by simp [Value.oneCell']) (by omega) (by unfold maxLen; omega) (by omega) ?_; intro v1 w1 hown1 hgrow1; obtain ⟨g1, c1, rfl⟩ := ownsRow_succ hown1; have bl1 := below_grows hgrow1; have o1 := ownsRow_below hown bl1)
        | (at_builtin; refine wpList_append_grows _ rfl (.tmp 29) (.tmp 32) 45 rfl 3 i0 (.int .i64 0) 1 8 Try.underlying45 hi hz0 hz1 hz2 rfl (by decide) ao n n (List.replicate n (.int .i64 (-1 - (L.length : Int)))) rfl (fun h => ⟨HAO.out h, HAO.out h⟩) (by simp) (holds_of (World.ownsRow.alloc o1 _)) ⟨_, 0, none⟩ 2 2 [(.int .i64 (-1 - (L.length : Int))), (.int .i64 (-1 - (L.length : Int)))] rfl rfl (cell_two_new _ _ _ _) (by simp [Value.oneCell']) (by omega) (by unfold maxLen; omega) (by omega) ?_; intro v2 w2 hown2 hgrow2; obtain ⟨g2, c2, rfl⟩ := ownsRow_succ hown2; have bl2 := below_grows hgrow2; have o2 := ownsRow_below o1 bl2)
        | (at_builtin; refine wpList_append_grows _ rfl (.tmp 34) (.tmp 38) 45 rfl 3 i0 (.int .i64 0) 1 8 Try.underlying45 hi hz0 hz1 hz2 rfl (by decide) ao n n (List.replicate n (.int .i64 (-1 - (L.length : Int)))) rfl (fun h => ⟨HAO.out h, HAO.out h⟩) (by simp) (holds_of (World.ownsRow.alloc o2 _)) ⟨_, 0, none⟩ 3 3 [(.int .i64 (-1 - (L.length : Int))), (.int .i64 (-1 - (L.length : Int))), (.int .i64 (-1 - (L.length : Int)))] rfl rfl (cell_three_new _ _ _ _ _) (by simp [Value.oneCell']) (by omega) (by unfold maxLen; omega) (by omega) ?_; intro v3 w3 hown3 hgrow3; obtain ⟨g3, c3, rfl⟩ := ownsRow_succ hown3; have bl3 := below_grows hgrow3; have o3 := ownsRow_below o2 bl3; have bk3 := ((hbk.below bl1).below bl2).below bl3; obtain ⟨kv3, hkb3, hkr3⟩ := bk3.book; obtain ⟨ko3, kc3, rfl, _⟩ := row_slice hkr3; have ck3 := (cells_of_three hkb3).1)
        | (at_builtin; refine wpList_append_own _ rfl (.tmp 44) (.tmp 49) 24 rfl base 45 i5 (.slice none 0 0) 1 24 Try.underlying24 hi5 hy0 hy1 hy2 rfl (by decide) _ _ _ rfl (World.ownsRow.alloc hkr3 _) ⟨_, 0, none⟩ 4 4 [.slice ao n n, .slice (some ⟨g1, 0, none⟩) (n + 1) c1, .slice (some ⟨g2, 0, none⟩) (n + 2) c2, .slice (some ⟨g3, 0, none⟩) (n + 3) c3] rfl rfl (cell_four_new _ _ _ _ _ _) (by simp [Value.oneCell']) (by unfold maxLen; omega) (by omega) (by have h1 := bl1.size; have h2 := bl2.size; have h3 := bl3.size; simp; omega) ?_; intro v4 w4 hown4 hgrow4 _; obtain ⟨g4, c4, rfl⟩ := ownsRow_succ hown4; have hK4 := book_grown hkb3 hkr3 (by decide) hgrow4; have ck4 := (cells_of_three hK4).1; have cf4 := free_of_three (j := 0) hK4))
      go_end0
      have s1 := bl1.size
      have s2 := bl2.size
      have s3 := bl3.size
      have r1 : List.replicate n (Value.int .i64 (-1 - (L.length : Int))) ++ [.int .i64 (-1 - (L.length : Int))] = List.replicate n (.int .i64 (-1 - (L.length : Int))) ++ List.replicate 1 (.int .i64 (-1 - (L.length : Int))) := rfl
      have r2 : List.replicate n (Value.int .i64 (-1 - (L.length : Int))) ++ [.int .i64 (-1 - (L.length : Int)), .int .i64 (-1 - (L.length : Int))] = List.replicate n (.int .i64 (-1 - (L.length : Int))) ++ List.replicate 2 (.int .i64 (-1 - (L.length : Int))) := rfl
      have r3 : List.replicate n (Value.int .i64 (-1 - (L.length : Int))) ++ [.int .i64 (-1 - (L.length : Int)), .int .i64 (-1 - (L.length : Int)), .int .i64 (-1 - (L.length : Int))] = List.replicate n (.int .i64 (-1 - (L.length : Int))) ++ List.replicate 3 (.int .i64 (-1 - (L.length : Int))) := rfl
      rw [r1] at hown1
      rw [r2] at hown2
      rw [r3] at hown3
      have b13 : Below w1.heap.size w1 w3 := bl2.trans (bl3.mono s2)
      have m0 : Marked w3 w3.heap.size (.slice ao n n) (-1 - (L.length : Int)) := ⟨n, o3, by omega, fun g hg => (o3.lt g hg).2⟩
      have m1 : Marked w3 w3.heap.size (.slice (some ⟨g1, 0, none⟩) (n + 1) c1) (-1 - (L.length : Int)) := marked_of (ownsRow_below hown1 b13) (by omega)
      have m2 : Marked w3 w3.heap.size (.slice (some ⟨g2, 0, none⟩) (n + 2) c2) (-1 - (L.length : Int)) := marked_of (ownsRow_below hown2 bl3) (by omega)
      have m3 : Marked w3 w3.heap.size (.slice (some ⟨g3, 0, none⟩) (n + 3) c3) (-1 - (L.length : Int)) := marked_of hown3 (by omega)
      have hP := bk3.push hkb3 hkr3 (N := [.slice ao n n, .slice (some ⟨g1, 0, none⟩) (n + 1) c1, .slice (some ⟨g2, 0, none⟩) (n + 2) c2, .slice (some ⟨g3, 0, none⟩) (n + 3) c3]) (by
        intro i hi
        match i, hi with
        | 0, _ => rw [markOf_four H4.out (by omega)]; exact m0
        | 1, _ => rw [markOf_four H4.out (by omega)]; exact m1
        | 2, _ => rw [markOf_four H4.out (by omega)]; exact m2
        | 3, _ => rw [markOf_four H4.out (by omega)]; exact m3
        | i + 4, hi => exact absurd hi (by simp)) hown4 hgrow4
      have bw3 : Below base w w3 := ((hB.trans (bl1.mono (by omega))).trans (bl2.mono (by omega))).trans (bl3.mono (by omega))
      have bw4 : Below base w w4 := (bw3.alloc (by omega) _).grown hgrow4 (by simp; omega) (fun k hk => (hkr3.lt k hk).1)
      exact ⟨rfl, bw4.setCell (p := ⟨K, 0, none⟩) hbK _, _, hP, by simp⟩
end Go.Proofs.Ytpecfjejfkcolaa
