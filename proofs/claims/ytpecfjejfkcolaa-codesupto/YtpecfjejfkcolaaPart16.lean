import Derived.Test.YtpecfjejfkcolaaPart15
/- wire.appendMove. -/
namespace Go.Proofs.Ytpecfjejfkcolaa
open Go.RowKit Go.Shelf
open Go.Lib (strCells strCells_length wpList_append_own_string)
set_option linter.unusedVariables false

theorem Try.info5 : (Try.prog.info? 5).map (fun i => (i.zero, i.size, i.bytes)) = some (some (.int .u8 0), 1, 1) := by kernel_rfl

theorem cell_one_at (w : World) (x : Value) (t : TypeId) (b : Nat) (h : w.heap.size = b) : ∀ j u, [x][j]? = some u → (w.alloc (.cells #[x] t)).cell? ((⟨b, 0, none⟩ : Addr).add j) = some u := by
  subst h; exact cell_one_new w x t
/-- text: a row of bytes of the call's own -/
def Text (w : World) (base : Nat) (v : Value) (s : ByteArray) : Prop := w.ownsRow base 5 1 v s.size (strCells s)
theorem text_push {w : World} {base : Nat} {v : Value} {s : ByteArray} {n : Int} (h : w.ownsRow base 5 1 v (s.size + 1) (strCells s ++ [.int .u8 n])) (h0 : 0 ≤ n) (h1 : n < 256) : Text w base v (s ++ oneB n) := by
  unfold Text
  rw [strCells_append, strCells_one h0 h1, ByteArray.size_append, oneB_size]
  exact h
theorem text_app {w : World} {base : Nat} {v : Value} {s t : ByteArray} (h : w.ownsRow base 5 1 v (s.size + t.size) (strCells s ++ strCells t)) : Text w base v (s ++ t) := by
  unfold Text
  rw [strCells_append, ByteArray.size_append]
  exact h
theorem text_below {w w' : World} {base : Nat} {v : Value} {s : ByteArray} {tmp : Obj} (h : Text w base v s) (hb : base ≤ w.heap.size) (hg : (w.alloc tmp).grownBy w' v.ownBlock) : Below base w w' :=
  ((Below.refl base w).alloc hb tmp).grown hg (by simp; omega) (fun k hk => (World.ownsRow.lt h k hk).1)
theorem text_below' {w w' : World} {base : Nat} {v : Value} {s : ByteArray} (h : Text w base v s) (hb : base ≤ w.heap.size) (hg : w.grownBy w' v.ownBlock) : Below base w w' :=
  (Below.refl base w).grown hg hb (fun k hk => (World.ownsRow.lt h k hk).1)

/-- a box of another type is not touched by an append onto the text -/
theorem box_kept {W W' : World} {b base n : Nat} {cs : Array Value} {t : TypeId} {v : Value} {xs : List Value} (hb : W.heap[b]? = some (.cells cs t (0, 0))) (h : W.ownsRow base 5 1 v n xs) (ht : t ≠ 5) (hg : W.grownBy W' v.ownBlock) : W'.heap[b]? = some (.cells cs t (0, 0)) := by
  refine (hg.block b (lt_of_block hb) ?_).trans hb
  rcases h.2 with ⟨rfl, _⟩ | ⟨R, cap, cur, rfl, _, hR, _⟩
  · simp [Value.ownBlock]
  · intro e
    obtain rfl : b = R := by simpa [Value.ownBlock] using e
    rw [hb] at hR
    simp at hR
    exact ht hR.2
theorem box_alloc {W : World} {b : Nat} {o o' : Obj} (hb : W.heap[b]? = some o) : (W.alloc o').heap[b]? = some o :=
  (((Below.refl W.heap.size W).alloc (Nat.le_refl _) o').block b (lt_of_block hb)).trans hb
theorem box_read {W : World} {b i : Nat} {cs : Array Value} {t : TypeId} {u : Value} (hb : W.heap[b]? = some (.cells cs t (0, 0))) (hi : cs[i]? = some u) : W.cell? ⟨b, i, none⟩ = some u := by
  simp only [World.cell?, hb]
  exact hi
/-- where the box's block stays -/
theorem box_grown {W W' : World} {base : Nat} {v : Value} {n : Nat} {xs : List Value} {o o1 : Obj} (h : W.ownsRow base 5 1 v n xs) (hb : base ≤ W.heap.size) (hg : ((W.alloc o).alloc o1).grownBy W' v.ownBlock) : Below base W W' :=
  (((Below.refl base W).alloc hb o).alloc (by simp; omega) o1).grown hg (by simp; omega) (fun k hk => (World.ownsRow.lt h k hk).1)
theorem app_one {W W' : World} {base n : Nat} {v : Value} {xs : List Value} {o : Obj} (h : W.ownsRow base 5 1 v n xs) (hb : base ≤ W.heap.size) (hg : (W.alloc o).grownBy W' v.ownBlock) : Below base W W' :=
  ((Below.refl base W).alloc hb o).grown hg (by simp; omega) (fun k hk => (World.ownsRow.lt h k hk).1)
theorem app_str {W W' : World} {base n : Nat} {v : Value} {xs : List Value} (h : W.ownsRow base 5 1 v n xs) (hb : base ≤ W.heap.size) (hg : W.grownBy W' v.ownBlock) : Below base W W' :=
  (Below.refl base W).grown hg hb (fun k hk => (World.ownsRow.lt h k hk).1)

set_option maxRecDepth 100000 in
set_option maxHeartbeats 2000000 in
theorem appendMove_any (base : Nat) (v : Value) (s : ByteArray) (x : Mv) (w : World) (ht : Text w base v s) (hb : base ≤ w.heap.size) (hs : s.size ≤ 100000) (hp : -1 ≤ x.prep ∧ x.prep ≤ 8) (hy : 0 ≤ x.by' ∧ x.by' ≤ 127) (hc : x.chain.size ≤ 21) :
    Calls Try.prog 48 #[v, mvV x] w fun e w' => ∃ v', e = .returned v' ∧ Text w' base v' (s ++ mvB x.prep x.chain x.by') ∧ Below base w w' := by
  obtain ⟨i0, hi, hz0, hz1, hz2⟩ := info_parts Try.info5
  obtain ⟨n, q, d, y⟩ := x
  dsimp only at hp hy hc ⊢
  have HT := hide ht
  have HX := hide (World.alloc_heap_new w (.cells #[.int .i64 n, .int .i64 q, .string d, .int .i64 y] 43 (0, 0)))
  clear ht
  by_cases h1 : q = -1
  · have HM : Hid (mvB q d y = oneB (q + 1)) := by show _ = _; unfold mvB; rw [if_pos h1, h1]; rfl
    have hpB : (q == -1) = true := by simp [h1]
    clear h1
    go_enter Try.func48, Try.ntmps48
    go_wp2_with (at_builtin; refine wpList_append_own _ rfl (.tmp 5) (.tmp 10) 80 rfl base 5 i0 (.int .u8 0) 1 1 Try.underlying80 hi hz0 hz1 hz2 rfl (by decide) v _ _ rfl (World.ownsRow.alloc (World.ownsRow.alloc HT.out _) _) ⟨_, 0, none⟩ 1 1 [.int .u8 (q + 1)] rfl rfl (cell_one_at _ _ _ _ (by simp)) (by simp [Value.oneCell']) (by unfold maxLen; omega) (by omega) (by simp; omega) ?_; intro v4 w4 hown4 hgrow4 _; have hx4 := box_kept (box_alloc HX.out) (World.ownsRow.alloc (World.ownsRow.alloc HT.out _) _) (by decide) hgrow4; have y4 := box_read (i := 1) hx4 rfl)
    go_ret
    refine ⟨_, rfl, ?_, box_grown HT.out hb hgrow4⟩
    rw [HM.out]
    exact text_push hown4 (by omega) (by omega)
  · have HM : Hid (mvB q d y = oneB (q + 1) ++ d ++ oneB y) := if_neg h1
    have hpB : (q == -1) = false := by simp [h1]
    clear h1
    go_enter Try.func48, Try.ntmps48
    go_wp2_with (first
      | (at_builtin; refine wpList_append_own _ rfl (.tmp 5) (.tmp 10) 80 rfl base 5 i0 (.int .u8 0) 1 1 Try.underlying80 hi hz0 hz1 hz2 rfl (by decide) v _ _ rfl (World.ownsRow.alloc (World.ownsRow.alloc HT.out _) _) ⟨_, 0, none⟩ 1 1 [.int .u8 (q + 1)] rfl rfl (cell_one_at _ _ _ _ (by simp)) (by simp [Value.oneCell']) (by unfold maxLen; omega) (by omega) (by simp; omega) ?_; intro v4 w4 hown4 hgrow4 _; have hx4 := box_kept (box_alloc HX.out) (World.ownsRow.alloc (World.ownsRow.alloc HT.out _) _) (by decide) hgrow4; have y4 := box_read (i := 1) hx4 rfl; have y5 := box_read (i := 2) hx4 rfl; have bl4 := box_grown HT.out hb hgrow4; have t4 := text_push hown4 (by omega) (by omega); have T4 := hide t4; clear t4)
      | (at_builtin; refine wpList_append_own_string _ rfl (.tmp 16) (.tmp 18) 80 9 rfl base 5 i0 Try.underlying80 Try.underlying9 hi hz0 hz1 hz2 v4 _ _ rfl T4.out d rfl (by unfold maxLen; simp [ByteArray.size_append, oneB_size]; omega) (by simp [ByteArray.size_append, oneB_size]; omega) (by have := bl4.size; omega) ?_; intro v5 w5 hown5 hgrow5 _; have hx5 := box_kept hx4 T4.out (by decide) hgrow5; have y6 := box_read (i := 3) hx5 rfl; have bl5 := app_str T4.out (by have := bl4.size; omega) hgrow5; have t5 := text_app hown5; have T5 := hide t5; clear t5)
      | (at_builtin; refine wpList_append_own _ rfl (.tmp 20) (.tmp 24) 80 rfl base 5 i0 (.int .u8 0) 1 1 Try.underlying80 hi hz0 hz1 hz2 rfl (by decide) v5 _ _ rfl (World.ownsRow.alloc T5.out _) ⟨_, 0, none⟩ 1 1 [.int .u8 y] rfl rfl (cell_one_at _ _ _ _ (by simp)) (by simp [Value.oneCell']) (by unfold maxLen; simp [ByteArray.size_append, oneB_size]; omega) (by simp [ByteArray.size_append, oneB_size]; omega) (by have := bl4.size; have := bl5.size; simp; omega) ?_; intro v6 w6 hown6 hgrow6 _; have bl6 := app_one T5.out (by have := bl4.size; have := bl5.size; omega) hgrow6))
    go_ret
    refine ⟨_, rfl, ?_, (bl4.trans bl5).trans bl6⟩
    rw [HM.out, ← ByteArray.append_assoc, ← ByteArray.append_assoc]
    exact text_push hown6 (by omega) (by omega)
end Go.Proofs.Ytpecfjejfkcolaa
