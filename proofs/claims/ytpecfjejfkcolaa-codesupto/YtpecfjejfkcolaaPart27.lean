import Derived.Test.YtpecfjejfkcolaaPart26
/- The law's keepMoves: what it needs. -/
namespace Go.Proofs.Ytpecfjejfkcolaa
open Go.RowKit Go.Shelf
set_option linter.unusedVariables false

theorem Try.infoMvs : (Try.prog.info? 37).map (fun i => (i.zero, i.size, i.bytes)) = some (some (.slice none 0 0), 1, 24) := by kernel_rfl

/-- what is handed to keepMoves: nothing, or a list of the call's own without spare room, its array from block 'top' on -/
def FreshM (w : World) (top : Nat) (v : Value) (n : Nat) (l : List Mv) : Prop :=
  (v = .slice none 0 0 ∧ n = 0 ∧ l = []) ∨ ∃ g, v = .slice (some ⟨g, 0, none⟩) n n ∧ top ≤ g ∧ w.heap[g]? = some (.cells (flatV l).toArray 43 (0, 0)) ∧ l.length = n
theorem FreshM.slice {w : World} {top n : Nat} {v : Value} {l : List Mv} (h : FreshM w top v n l) : ∃ ao, v = .slice ao n n ∧ (ao = none → n = 0) ∧ l.length = n := by
  rcases h with ⟨rfl, rfl, rfl⟩ | ⟨g, rfl, _, _, hl⟩
  · exact ⟨none, rfl, fun _ => rfl, rfl⟩
  · exact ⟨_, rfl, (fun h => by cases h), hl⟩
theorem rowM_of {w : World} {g n : Nat} {l : List Mv} (h : w.heap[g]? = some (.cells (flatV l).toArray 43 (0, 0))) (hl : l.length = n) (hn : n ≤ 3000000) : w.ownsRow 0 43 4 (.slice (some ⟨g, 0, none⟩) n n) n (flatV l) :=
  ⟨by rw [flatV_length, hl], .inr ⟨g, n, _, rfl, Nat.zero_le _, h, Nat.le_refl _, by unfold maxLen; omega, by rw [List.size_toArray, flatV_length, hl], by rw [List.take_of_length_le]; rw [flatV_length, hl]; exact Nat.le_refl _⟩⟩

/-- a list of Moves is no block of another kind -/
theorem MarkedM.ne {w : World} {top : Nat} {v : Value} {x : ByteArray} {b : Nat} {cs : Array Value} {t : TypeId} (h : MarkedM w top v x) (hb : w.heap[b]? = some (.cells cs t (0, 0))) (ht : t ≠ 43) : v.ownBlock = none ∨ v.ownBlock ≠ some b := by
  obtain ⟨n, hown, _⟩ := h
  rcases hown.2 with ⟨rfl, _⟩ | ⟨g, cap, cur, rfl, _, hg, _⟩
  · exact .inl rfl
  · refine .inr fun e => ?_
    obtain rfl : g = b := by simpa [Value.ownBlock] using e
    rw [hg] at hb
    simp at hb
    exact ht hb.2.symm
theorem MarkedM.ne_row {w : World} {top base n : Nat} {v kv : Value} {x : ByteArray} {L : List Value} {t : TypeId} (h : MarkedM w top v x) (hr : w.ownsRow base t 1 kv n L) (ht : t ≠ 43) : v.ownBlock = none ∨ v.ownBlock ≠ kv.ownBlock := by
  rcases hr.2 with ⟨rfl, _⟩ | ⟨R, cap, cur, rfl, _, hR, _⟩
  · cases hv : v.ownBlock with
    | none => exact .inl rfl
    | some g => exact .inr (by simp [Value.ownBlock])
  · exact h.ne hR ht
/-- what turns only an array of Moves from 'top' on leaves the book -/
theorem BookM.grown {w w' : World} {K base top g : Nat} {L : List Value} (h : BookM w K base top L) {cur : Array Value} (hg : w.heap[g]? = some (.cells cur 43 (0, 0))) (ht : top ≤ g) (hgr : w.grownBy w' (some g)) : BookM w' K base top L := by
  obtain ⟨⟨kv, h1, h2⟩, h3, h4⟩ := h
  refine ⟨⟨kv, ?_, h2.kept hgr ?_⟩, fun i hi => (h3 i hi).kept hgr ?_, Nat.le_trans h4 hgr.size⟩
  · refine (hgr.block K (lt_of_block h1) ?_).trans h1
    intro e
    obtain rfl : K = g := by simpa using e
    rw [h1] at hg; simp at hg
  · rcases h2.2 with ⟨rfl, _⟩ | ⟨R, cap, cu, rfl, _, hR, _⟩
    · exact .inl rfl
    · refine .inr fun e => ?_
      obtain rfl : R = g := by simpa [Value.ownBlock] using e
      rw [hR] at hg; simp at hg
  · cases hv : (L[i]).ownBlock with
    | none => exact .inl rfl
    | some b =>
      refine .inr fun e => ?_
      obtain ⟨_, _, _, hb⟩ := h3 i hi
      have := hb b hv
      simp at e
      omega
theorem grown_four (w : World) (g a b c d : Nat) (u0 u1 u2 u3 : Value) : w.grownBy ((((w.setCell ⟨g, a, none⟩ u0).setCell ⟨g, b, none⟩ u1).setCell ⟨g, c, none⟩ u2).setCell ⟨g, d, none⟩ u3) (some g) :=
  grown_trans (grown_trans (grown_trans (grownBy_setCellAt _ _ _ _) (grownBy_setCellAt _ _ _ _)) (grownBy_setCellAt _ _ _ _)) (grownBy_setCellAt _ _ _ _)
theorem below_four {base : Nat} {w0 w : World} (h : Below base w0 w) {g : Nat} (hg : base ≤ g) (a b c d : Nat) (u0 u1 u2 u3 : Value) : Below base w0 ((((w.setCell ⟨g, a, none⟩ u0).setCell ⟨g, b, none⟩ u1).setCell ⟨g, c, none⟩ u2).setCell ⟨g, d, none⟩ u3) :=
  (((h.setCell (p := ⟨g, a, none⟩) hg _).setCell (p := ⟨g, b, none⟩) hg _).setCell (p := ⟨g, c, none⟩) hg _).setCell (p := ⟨g, d, none⟩) hg _

theorem bookM_grown {w w5 : World} {K base n : Nat} {L : List Value} {kv a b : Value} {tmp : Obj} {t : TypeId} (hkv : w.heap[K]? = some (.cells #[a, kv, b] 28 (0, 0))) (hrow : w.ownsRow base t 1 kv n L) (ht : 28 ≠ t) (hgrow : (w.alloc tmp).grownBy w5 kv.ownBlock) :
    w5.heap[K]? = some (.cells #[a, kv, b] 28 (0, 0)) := by
  have hg1 := World.grownBy_alloc w tmp none
  have hK1 : (w.alloc tmp).heap[K]? = some (.cells #[a, kv, b] 28 (0, 0)) := (hg1.block K (lt_of_block hkv) (by simp)).trans hkv
  refine (hgrow.block K (lt_of_block hK1) ?_).trans hK1
  rcases (hrow.alloc tmp).2 with ⟨rfl, _⟩ | ⟨R, cap, cur, rfl, _, hR, _⟩
  · simp [Value.ownBlock]
  · intro e
    obtain rfl : K = R := by simpa [Value.ownBlock] using e
    rw [hK1] at hR
    simp at hR
    exact ht hR.2
/-- FOUR LISTS MORE. -/
theorem BookM.push {w w5 : World} {K base top : Nat} {L N : List Value} {kv kv' : Value} {tmp : Obj} (h : BookM w K base top L)
    (hkv : w.heap[K]? = some (.cells #[.slice none 0 0, kv, .slice none 0 0] 28 (0, 0))) (hrow : w.ownsRow base 37 1 kv L.length L)
    (hN : ∀ i (hi : i < N.length), MarkedM w w.heap.size N[i] (markM (L.length + i)))
    (hown : w5.ownsRow base 37 1 kv' (L.length + N.length) (L ++ N)) (hgrow : (w.alloc tmp).grownBy w5 kv.ownBlock) :
    BookM (w5.setCell ⟨K, 1, none⟩ kv') K base (w5.setCell ⟨K, 1, none⟩ kv').heap.size (L ++ N) := by
  have hg1 := World.grownBy_alloc w tmp none
  have hr1 := hrow.alloc tmp
  have hK5 := bookM_grown hkv hrow (by decide) hgrow
  have hgs := grownBy_setCellAt w5 K 1 kv'
  have hkeep : ∀ v x, MarkedM w w.heap.size v x → MarkedM (w5.setCell ⟨K, 1, none⟩ kv') (w5.setCell ⟨K, 1, none⟩ kv').heap.size v x := by
    intro v x hm
    have m1 : MarkedM (w.alloc tmp) w.heap.size v x := hm.kept hg1 (by cases hv : v.ownBlock with
      | none => exact .inl rfl
      | some g => exact .inr (by simp))
    have m2 := m1.kept hgrow (m1.ne_row hr1 (by decide))
    have m3 := m2.kept hgs (m2.ne hK5 (by decide))
    refine m3.mono (Nat.le_trans hg1.size (Nat.le_trans hgrow.size hgs.size))
  refine ⟨⟨kv', heap_set hK5 (by simp), ?_⟩, fun i hi => ?_, Nat.le_refl _⟩
  · rw [List.length_append]
    refine hown.kept hgs ?_
    rcases hown.2 with ⟨rfl, _⟩ | ⟨R, cap, cur, rfl, _, hR, _⟩
    · exact .inl rfl
    · refine .inr fun e => ?_
      obtain rfl : R = K := by simpa [Value.ownBlock] using e
      rw [hK5] at hR; simp at hR
  · by_cases hlt : i < L.length
    · have h1 := hkeep _ _ ((h.lists i hlt).mono h.top_le)
      rw [List.getElem_append_left hlt]
      exact h1
    · have h2 : i - L.length < N.length := by rw [List.length_append] at hi; omega
      have h1 := hkeep _ _ (hN (i - L.length) h2)
      rw [List.getElem_append_right (by omega)]
      rw [show L.length + (i - L.length) = i by omega] at h1
      exact h1
theorem markM_four {n i : Nat} (h : n % 4 = 0) (hi : i < 4) : markM (n + i) = markB n := by
  unfold markM
  have : (n + i) / 4 * 4 = n := by omega
  rw [this]
theorem cell_list_new (w : World) (cs : List Value) (t : TypeId) : ∀ j u, cs[j]? = some u → (w.alloc (.cells cs.toArray t)).cell? ((⟨w.heap.size, 0, none⟩ : Addr).add j) = some u := by
  intro j u hj
  have h := World.alloc_heap_new w (.cells cs.toArray t (0, 0))
  have e : (⟨w.heap.size, 0, none⟩ : Addr).add j = ⟨w.heap.size, j, none⟩ := by unfold Addr.add; split <;> simp_all
  rw [e]
  exact box_read h (by simpa using hj)
theorem holds_ofM {w : World} {base n cap : Nat} {ao : Option Addr} {xs : List Value} (h : w.ownsRow base 43 4 (.slice ao n cap) n xs) : ∀ b, ao = some b → ∀ j u, xs[j]? = some u → w.cell? (b.add j) = some u := by
  intro b hb j u hj
  subst hb
  rcases h.2 with ⟨e, _⟩ | ⟨g, cp, cur, e, _⟩
  · cases e
  · injection e with e1 e2 e3
    cases e1
    exact h.cells rfl j u hj
theorem markedM_of {w : World} {base n k : Nat} {v : Value} {c : ByteArray} {xs : List Value} (hx : xs = flatV (List.replicate k (mkMv c))) (h : w.ownsRow base 43 4 v (n + k) (flatV (List.replicate n (mkMv c)) ++ xs)) (hn : n + k ≤ 3000000) : MarkedM w w.heap.size v c := by
  rw [hx, ← flatV_append, List.replicate_append_replicate] at h
  exact ⟨n + k, ownsRow_mono h (Nat.zero_le _), hn, fun g hg => (h.lt g hg).2⟩
theorem fill_step {x : Mv} {l : List Mv} {k : Nat} (hk : k < l.length) : List.replicate k x ++ x :: l.drop (k + 1) = List.replicate (k + 1) x ++ l.drop (k + 1) := by
  rw [List.replicate_succ', List.append_assoc]; rfl
end Go.Proofs.Ytpecfjejfkcolaa

/- mootref.Decode at Propose. -/
namespace Go.Proofs.Ytpecfjejfkcolaa
open Go.RowKit Go.Shelf
set_option linter.unusedVariables false

/-- what the document's Decode answers -/
def RefPostM (s : ByteArray) (w : World) (e : Ending) (w' : World) : Prop :=
  ((okMsg s = true ∧ ∃ v, e = .returned (.tuple #[mgV (posMsg s) v, .int .i64 0]) ∧ MovesAt w' v (posMsg s).moves) ∨ (okMsg s = false ∧ e = .returned (.tuple #[noMsg, .int .i64 2]))) ∧ Below w.heap.size w w'
theorem RefPost.any {s : ByteArray} {w w' : World} {e : Ending} (h : RefPost s w e w') : RefPostM s w e w' := by
  obtain ⟨⟨h1, h2, h3⟩ | ⟨h1, h2⟩, hb⟩ := h
  · refine ⟨.inl ⟨h1, _, h2, ?_⟩, hb⟩
    rw [h3]
    exact ⟨⟨none, 0, rfl, fun h => absurd h (by simp)⟩, (fun x hx => absurd hx (by simp)), Nat.zero_le _⟩
  · exact ⟨.inr ⟨h1, h2⟩, hb⟩
theorem movesAt_row {w : World} {base n : Nat} {v : Value} {l : List Mv} (h : w.ownsRow base 43 4 v n (flatV l)) (hln : l.length = n) (hc : ∀ x ∈ l, x.chain.size ≤ maxLen) (hl : l.length ≤ 2000000) : MovesAt w v l := by
  refine ⟨?_, hc, hl⟩
  subst hln
  have h' := h
  rcases h.2 with ⟨rfl, h0⟩ | ⟨g, cap, cur, rfl, _, hg, _⟩
  · exact ⟨none, 0, by rw [h0], fun h => by omega⟩
  · refine ⟨_, cap, rfl, fun _ => ⟨g, 0, rfl, lt_of_block hg, fun i hi => ?_⟩⟩
    have q := flatV_get (l.take i) (l.drop (i + 1)) l[i] i (by rw [List.length_take]; omega)
    rw [← List.drop_eq_getElem_cons hi, List.take_append_drop] at q
    rw [Nat.zero_add]
    exact ⟨(h'.cellAt _ (by omega)).trans q.1, (h'.cellAt _ (by omega)).trans q.2.1, (h'.cellAt _ (by omega)).trans q.2.2.1, (h'.cellAt _ (by omega)).trans q.2.2.2⟩
theorem row_form {w : World} {base n : Nat} {e : TypeId} {size : Nat} {v : Value} {xs : List Value} (h : w.ownsRow base e size v n xs) : ∃ ao cap, v = .slice ao n cap := by
  rcases h.2 with ⟨rfl, h0⟩ | ⟨g, cap, cur, rfl, _⟩
  · exact ⟨none, 0, by rw [h0]⟩
  · exact ⟨_, cap, rfl⟩
theorem cut_le (s : ByteArray) (i n : Nat) : (s.extract i (i + n)).size ≤ n := by
  rw [ByteArray.size_extract]; omega
theorem moveAtB_size (s : ByteArray) (i n : Nat) : (moveAtB s i n).2.1.size ≤ n ∧ 1 ≤ (moveAtB s i n).2.2.2 ∧ (moveAtB s i n).2.2.2 ≤ 2 + (n : Int) := by
  unfold moveAtB
  split
  · exact ⟨Nat.zero_le _, by simp, by simp; omega⟩
  · exact ⟨cut_le _ _ _, by simp; omega, by simp⟩
theorem posMoves_chain (n : Nat) (s : ByteArray) : ∀ (k i : Nat), ∀ x ∈ posMoves n k s i, x.chain.size ≤ n
  | 0, _, x, hx => by simp [posMoves] at hx
  | k + 1, i, x, hx => by
    rw [posMoves, List.mem_cons] at hx
    rcases hx with rfl | hx
    · exact (moveAtB_size s (i + 1) n).1
    · exact posMoves_chain n s k _ x hx
theorem posMoves_len (n : Nat) (s : ByteArray) : ∀ (k i : Nat), (posMoves n k s i).length = k
  | 0, _ => rfl
  | k + 1, i => by rw [posMoves, List.length_cons, posMoves_len n s k]
/-- a block of another kind stays -/
theorem box_keptM {W W' : World} {b base n size : Nat} {cs : Array Value} {t e : TypeId} {v : Value} {xs : List Value} (hb : W.heap[b]? = some (.cells cs t (0, 0))) (h : W.ownsRow base e size v n xs) (ht : t ≠ e) (hg : W.grownBy W' v.ownBlock) : W'.heap[b]? = some (.cells cs t (0, 0)) := by
  refine (hg.block b (lt_of_block hb) ?_).trans hb
  rcases h.2 with ⟨rfl, _⟩ | ⟨R, cap, cur, rfl, _, hR, _⟩
  · simp [Value.ownBlock]
  · intro e
    obtain rfl : b = R := by simpa [Value.ownBlock] using e
    rw [hb] at hR
    simp at hR
    exact ht hR.2
theorem cell_list_new1 (w : World) (o : Obj) (cs : List Value) (t : TypeId) : ∀ j u, cs[j]? = some u → ((w.alloc o).alloc (.cells cs.toArray t)).cell? ((⟨w.heap.size + 1, 0, none⟩ : Addr).add j) = some u := by
  have h := cell_list_new (w.alloc o) cs t
  rw [World.size_alloc] at h
  exact h
theorem grown_eight (w : World) (g a0 a1 a2 a3 a4 a5 a6 a7 : Nat) (u0 u1 u2 u3 u4 u5 u6 u7 : Value) : w.grownBy ((((((((w.setCell ⟨g, a0, none⟩ u0).setCell ⟨g, a1, none⟩ u1).setCell ⟨g, a2, none⟩ u2).setCell ⟨g, a3, none⟩ u3).setCell ⟨g, a4, none⟩ u4).setCell ⟨g, a5, none⟩ u5).setCell ⟨g, a6, none⟩ u6).setCell ⟨g, a7, none⟩ u7) (some g) :=
  grown_trans (grown_four _ _ _ _ _ _ _ _ _ _) (grown_four _ _ _ _ _ _ _ _ _ _)

set_option maxRecDepth 100000 in
set_option maxHeartbeats 8000000 in
theorem refDec1 (s : ByteArray) (f h r : Int) (n k : Nat) (c : ByteArray) (w : World) (hs : s.size ≤ maxLen) (h0 : atB s 0 = 1) (h1 : atB s 1 = f) (h2 : atB s 2 = h) (h3 : atB s 3 = r) (hn : 3 * h = (n : Int)) (hh : 0 ≤ h ∧ h ≤ 255) (hc : s.extract 4 (4 + n) = c) (hcs : c.size ≤ 1000) (h5 : atB s (4 + n) = (k : Int)) (hk : k ≤ 255) (hp : posMsg s = ⟨1, f, h, r, c, -1, 0, posMoves n k s (5 + n)⟩) :
    Calls Try.prog 19 #[.string s] w (RefPostM s w) := by
  obtain ⟨i0, hi, hz0, hz1, hz2⟩ := info_parts Try.infoMv
  obtain ⟨l, hl⟩ : ∃ l, posMoves n k s (5 + n) = l := ⟨_, rfl⟩
  have hch : Hid (∀ x ∈ l, x.chain.size ≤ maxLen) := by
    intro x hx
    rw [← hl] at hx
    have := posMoves_chain n s k (5 + n) x hx
    unfold maxLen
    omega
  have hll : Hid (l.length = k) := by show _ = _; rw [← hl]; exact posMoves_len _ _ _ _
  rw [hl] at hp
  obtain ⟨t, er, he⟩ := encRes_two ⟨1, f, h, r, c, -1, 0, l⟩
  have hfl := dec_flags hp he
  obtain ⟨b1, hb1⟩ : ∃ x, (er == 0) = x := ⟨_, rfl⟩
  obtain ⟨b2, hb2⟩ : ∃ x, (t.toList == s.toList) = x := ⟨_, rfl⟩
  rw [hb1, hb2] at hfl
  have HFL := hide hfl
  have HENC := hide (fun (W : World) (v : Value) (hv : MovesAt W v l) => refEnc_any ⟨1, f, h, r, c, -1, 0, l⟩ v W hv (Nat.le_trans hcs (by unfold maxLen; decide)))
  rw [he] at HENC
  have HP := hide hp
  have HL := hide hl
  have K0 : Hid (atB s (0 : Int).toNat = 1) := h0
  have K1 : Hid (atB s (1 : Int).toNat = f) := h1
  have K2 : Hid (atB s (2 : Int).toNat = h) := h2
  have K3 : Hid (atB s (3 : Int).toNat = r) := h3
  have K5 : Hid (atB s ((4 : Int) + (n : Int)).toNat = (k : Int)) := by show _ = _; rw [← h5]; exact congrArg (atB s) (by omega)
  have HC : Hid (s.extract (4 : Int).toNat ((4 : Int).toNat + (n : Int).toNat) = c) := by rw [Int.toNat_natCast]; exact hc
  have hn0 : n ≤ 765 := by omega
  have HN := hide hn
  have HA0 := box_alloc (o' := .cells #[.int .i64 1, .int .i64 f, .int .i64 h, .int .i64 r, .string c, .int .i64 (-1), .int .i64 0, .slice none 0 0] 39) (World.alloc_heap_new w (.cells #[.int .i64 0, .int .i64 0, .int .i64 0, .int .i64 0, .string ⟨#[]⟩, .int .i64 0, .int .i64 0, .slice none 0 0] 39 (0, 0)))
  have HB0 : (((w.alloc (.cells #[.int .i64 0, .int .i64 0, .int .i64 0, .int .i64 0, .string ⟨#[]⟩, .int .i64 0, .int .i64 0, .slice none 0 0] 39)).alloc (.cells #[.int .i64 1, .int .i64 f, .int .i64 h, .int .i64 r, .string c, .int .i64 (-1), .int .i64 0, .slice none 0 0] 39))).heap[w.heap.size + 1]? = some (.cells #[.int .i64 1, .int .i64 f, .int .i64 h, .int .i64 r, .string c, .int .i64 (-1), .int .i64 0, .slice none 0 0] 39 (0, 0)) := by
    have := World.alloc_heap_new (w.alloc (.cells #[.int .i64 0, .int .i64 0, .int .i64 0, .int .i64 0, .string ⟨#[]⟩, .int .i64 0, .int .i64 0, .slice none 0 0] 39)) (.cells #[.int .i64 1, .int .i64 f, .int .i64 h, .int .i64 r, .string c, .int .i64 (-1), .int .i64 0, .slice none 0 0] 39 (0, 0))
    rw [World.size_alloc] at this
    exact this
  have HA := hide HA0
  have HB := hide HB0
  have hbw : Below w.heap.size w ((w.alloc (.cells #[.int .i64 0, .int .i64 0, .int .i64 0, .int .i64 0, .string ⟨#[]⟩, .int .i64 0, .int .i64 0, .slice none 0 0] 39)).alloc (.cells #[.int .i64 1, .int .i64 f, .int .i64 h, .int .i64 r, .string c, .int .i64 (-1), .int .i64 0, .slice none 0 0] 39)) := (((Below.refl _ w).alloc (Nat.le_refl _) _).alloc (by simp) _)
  have HBW := hide hbw
  clear h0 h1 h2 h3 hp he hfl HA0 HB0 hbw h5 hc hl
  go_enter Try.func19, Try.ntmps19
  go_wp2_with (first
    | (go_at_call 34; refine (at_is s _ _ hs (by omega) (by omega)).mono ?_; rintro e w' ⟨rfl, rfl⟩; first | rw [K0.out] | rw [K1.out] | rw [K2.out] | rw [K3.out] | rw [K5.out])
    | (go_at_call 35; refine (cut_is s _ _ _ hs (by omega) (by omega) (by omega) (by omega)).mono ?_; rintro e w' ⟨rfl, rfl⟩; rw [HC.out]))
  go_loopw [6, 7] (fun pi ki wr => ∃ (rem pos : Nat) (d : List Mv) (v : Value), rem ≤ k ∧ ki = .int .i64 (rem : Int) ∧ pi = .int .i64 (pos : Int) ∧ pos ≤ 5 + n + (k - rem) * 1000 ∧ Hid (d.length = k - rem) ∧ Hid (l = d ++ posMoves n rem s pos) ∧ wr.ownsRow (w.heap.size + 2) 43 4 v (k - rem) (flatV d) ∧ Hid (wr.heap[w.heap.size]? = some (.cells #[.int .i64 0, .int .i64 0, .int .i64 0, .int .i64 0, .string ⟨#[]⟩, .int .i64 0, .int .i64 0, .slice none 0 0] 39 (0, 0))) ∧ Hid (wr.heap[w.heap.size + 1]? = some (.cells #[.int .i64 1, .int .i64 f, .int .i64 h, .int .i64 r, .string c, .int .i64 (-1), .int .i64 0, v] 39 (0, 0))) ∧ Hid (Below w.heap.size w wr)) (fun _ i _ => (intOf i).toNat)
  case atStart => exact ⟨k, 5 + n, [], .slice none 0 0, by omega, rfl, by simp, by omega, by show _ = _; simp, HL.out.symm, by rw [Nat.sub_self]; exact World.ownsRow_nil _ _ _ _, HA, HB, HBW⟩
  case round =>
    obtain ⟨rem, pos, d, v, hrem, rfl, rfl, hpos, hd, hdl, hown, hA, hB, hbel⟩ := hrel
    obtain ⟨ao, cap, rfl⟩ := row_form hown
    have HOWN := hide hown
    clear hown
    by_cases hlt : 0 < rem
    · obtain ⟨nd, hnd⟩ : ∃ nd, atB s pos = nd := ⟨_, rfl⟩
      obtain ⟨p, mc, mb, q, hm⟩ : ∃ p mc mb q, moveAtB s (pos + 1) n = (p, mc, mb, q) := ⟨_, _, _, _, rfl⟩
      have hq := moveAtB_size s (pos + 1) n
      rw [hm] at hq
      obtain ⟨_, hq1, hq2⟩ := hq
      dsimp only at hq1 hq2
      obtain ⟨qn, hqn⟩ := Int.eq_ofNat_of_zero_le (show 0 ≤ q by omega)
      subst hqn
      have hstep : Hid (posMoves n rem s pos = ⟨nd, p, mc, mb⟩ :: posMoves n (rem - 1) s (pos + 1 + qn)) := by
        show _ = _
        rw [show rem = (rem - 1) + 1 by omega, posMoves, hnd, hm]
        dsimp only
        rw [Int.toNat_natCast]
        rfl
      have HND : Hid (atB s (pos : Int).toNat = nd) := by show _ = _; rw [Int.toNat_natCast]; exact hnd
      have HM : Hid (moveAtB s ((pos : Int) + 1).toNat (3 * h).toNat = (p, mc, mb, (qn : Int))) := by
        show _ = _
        rw [HN.out, Int.toNat_natCast, show ((pos : Int) + 1).toNat = pos + 1 by omega]
        exact hm
      clear hnd hm
      have rB : decide ((0 : Int) < (rem : Int)) = true := by simp; omega
      have hsz : w.heap.size + 2 ≤ wr.heap.size := lt_of_block hB.out
      have g0 := box_read (i := 7) (box_alloc (o' := .cells #[.int .i64 nd, .int .i64 p, .string mc, .int .i64 mb] 43) hB.out) rfl
      go_wp2_with (first
        | (go_at_call 34; refine (at_is s _ _ hs (by omega) (by omega)).mono ?_; rintro e w' ⟨rfl, rfl⟩; rw [HND.out])
        | (go_at_call 36; refine (moveAt_is s _ h p mb qn mc _ hs (by omega) (by omega) hh HM.out).mono ?_; rintro e w' ⟨rfl, rfl⟩)
        | (at_builtin; refine wpList_append_own _ rfl (.tmp 65) (.tmp 67) 37 rfl (w.heap.size + 2) 43 i0 (.agg zeroMv) 4 40 Try.underlying37 hi hz0 hz1 hz2 rfl (by decide) _ _ _ rfl (World.ownsRow.alloc (World.ownsRow.alloc HOWN.out _) _) ⟨_, 0, none⟩ 1 1 [.int .i64 nd, .int .i64 p, .string mc, .int .i64 mb] rfl rfl (cell_list_new1 _ _ _ _) (by simp [Value.oneCell']) (by unfold maxLen; omega) (by omega) (by simp; omega) ?_; intro v4 w5 hown4 hgrow4 _; obtain ⟨g4, c4, rfl⟩ := ownsRow_succ hown4; have HO4 := hide hown4; have HG4 := hide hgrow4; have a5 := box_keptM (box_alloc (box_alloc hA.out)) (World.ownsRow.alloc (World.ownsRow.alloc HOWN.out _) _) (by decide) hgrow4; have b5 := box_keptM (box_alloc (box_alloc hB.out)) (World.ownsRow.alloc (World.ownsRow.alloc HOWN.out _) _) (by decide) hgrow4; have HA5 := hide a5; have HB5 := hide b5; have y0 := box_read (i := 7) b5 rfl; have y1 := free_of (j := 7) b5; clear hown4 hgrow4 a5 b5))
      go_roundw
      case rel =>
        have hb5 : Below w.heap.size w w5 := ((hbel.out.alloc (by omega) _).alloc (by simp; omega) _).grown HG4.out (by simp; omega) (fun k hk => by have := (HOWN.out.lt k hk).1; omega)
        refine ⟨rem - 1, pos + 1 + qn, d ++ [⟨nd, p, mc, mb⟩], .slice (some ⟨g4, 0, none⟩) (k - rem + 1) c4, by omega, by go_num, by go_num, by omega, ?_, ?_, ?_, ?_, ?_, ?_⟩
        · show _ = _
          rw [List.length_append, hd.out]
          simp
          omega
        · show _ = _
          rw [hdl.out, hstep.out, List.append_assoc]
          rfl
        · rw [show k - (rem - 1) = k - rem + 1 by omega, flatV_append]
          refine HO4.out.kept (grownBy_setCellAt _ _ _ _) (.inr ?_)
          intro e
          have := (HO4.out.lt g4 rfl).1
          simp [Value.ownBlock] at e
          omega
        · exact heap_other HA5.out (by omega)
        · exact heap_set (j := 7) HB5.out (by simp)
        · exact hb5.setCell (p := ⟨w.heap.size + 1, 7, none⟩) (Nat.le_succ _) _
      case measure => simp [intOf]; omega
    · have hr0 : rem = 0 := by omega
      subst hr0
      have hl2 : Hid (l = d) := by show _ = _; rw [hdl.out, posMoves, List.append_nil]
      have HMV : Hid (MovesAt wr (.slice ao (k - 0) cap) l) := by
        refine movesAt_row (n := k - 0) (base := w.heap.size + 2) ?_ (by rw [hl2.out]; exact hd.out) hch.out (by rw [hll.out]; omega)
        rw [hl2.out]; exact HOWN.out
      have z0 := box_read (i := 0) hB.out rfl
      have z1 := box_read (i := 1) hB.out rfl
      have z2 := box_read (i := 2) hB.out rfl
      have z3 := box_read (i := 3) hB.out rfl
      have z4 := box_read (i := 4) hB.out rfl
      have z5 := box_read (i := 5) hB.out rfl
      have z6 := box_read (i := 6) hB.out rfl
      have z7 := box_read (i := 7) hB.out rfl
      go_wp2_with (go_at_call 16; refine (HENC.out _ _ HMV.out).mono ?_; rintro e w3 ⟨rfl, hb3⟩; have a3 := (hb3.block _ (lt_of_block hA.out)).trans hA.out; have x3 := (hb3.block _ (lt_of_block hB.out)).trans hB.out; have t0 := box_read (i := 0) a3 rfl; have e0 := free_of (j := 0) a3; have c0 := box_read (i := 0) x3 rfl; have t1 := box_read (i := 1) a3 rfl; have e1 := free_of (j := 1) a3; have c1 := box_read (i := 1) x3 rfl; have t2 := box_read (i := 2) a3 rfl; have e2 := free_of (j := 2) a3; have c2 := box_read (i := 2) x3 rfl; have t3 := box_read (i := 3) a3 rfl; have e3 := free_of (j := 3) a3; have c3 := box_read (i := 3) x3 rfl; have t4 := box_read (i := 4) a3 rfl; have e4 := free_of (j := 4) a3; have c4 := box_read (i := 4) x3 rfl; have t5 := box_read (i := 5) a3 rfl; have e5 := free_of (j := 5) a3; have c5 := box_read (i := 5) x3 rfl; have t6 := box_read (i := 6) a3 rfl; have e6 := free_of (j := 6) a3; have c6 := box_read (i := 6) x3 rfl; have t7 := box_read (i := 7) a3 rfl; have e7 := free_of (j := 7) a3; have c7 := box_read (i := 7) x3 rfl)
      all_goals have B3 := hbel.out.trans (hb3.mono hbel.out.size)
      · refine bodyPost_ret (v := .tuple #[noMsg, .int .i64 2]) (by simp [results, Try.results19, go_sem, t0, t1, t2, t3, t4, t5, t6, t7]) rfl ⟨.inr ⟨?_, rfl⟩, below_four (below_four B3 (Nat.le_refl _) _ _ _ _ _ _ _ _) (Nat.le_refl _) _ _ _ _ _ _ _ _⟩
        have q : (!b2) = true := by assumption
        have q' : b2 = false := by simpa using q
        rw [HFL.out, q', Bool.and_false]
      · refine bodyPost_ret (v := .tuple #[mgV ⟨1, f, h, r, c, -1, 0, l⟩ (.slice ao (k - 0) cap), .int .i64 0]) (by simp [results, Try.results19, go_sem, t0, t1, t2, t3, t4, t5, t6, t7]) rfl ⟨.inl ⟨?_, .slice ao (k - 0) cap, ?_, ?_⟩, below_four (below_four B3 (Nat.le_refl _) _ _ _ _ _ _ _ _) (Nat.le_refl _) _ _ _ _ _ _ _ _⟩
        · have q : (!b2) = false := by assumption
          have q' : b2 = true := by simpa using q
          have q1 : er = 0 := by assumption
          rw [HFL.out, ← hb1, q', q1]; rfl
        · rw [HP.out]
        · rw [HP.out]
          dsimp only
          refine movesAt_row (n := k - 0) (base := w.heap.size + 2) ?_ (by rw [hl2.out]; exact hd.out) hch.out (by rw [hll.out]; omega)
          rw [hl2.out]
          refine (ownsRow_below HOWN.out hb3).kept (grown_eight _ _ _ _ _ _ _ _ _ _ _ _ _ _ _ _ _ _) ?_
          cases ao with
          | none => exact .inl rfl
          | some x =>
            refine .inr fun e => ?_
            have := (HOWN.out.lt x.block rfl).1
            simp [Value.ownBlock] at e
            omega
      · refine bodyPost_ret (v := .tuple #[noMsg, .int .i64 2]) (by simp [results, Try.results19, go_sem, t0, t1, t2, t3, t4, t5, t6, t7]) rfl ⟨.inr ⟨?_, rfl⟩, below_four (below_four B3 (Nat.le_refl _) _ _ _ _ _ _ _ _) (Nat.le_refl _) _ _ _ _ _ _ _ _⟩
        have q : ¬ er = 0 := by assumption
        rw [HFL.out, ← hb1, beq_eq_false_iff_ne.2 q, Bool.false_and]
end Go.Proofs.Ytpecfjejfkcolaa
