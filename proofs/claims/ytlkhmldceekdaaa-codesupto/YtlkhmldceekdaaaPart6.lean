import Derived.Test.YtlkhmldceekdaaaPart5
import Derived.Shelf.Lay
import Derived.Shelf.Strconv.Clone
/- The law's keepInts, walked. -/
namespace Go.Proofs.Ytlkhmldceekdaaa
open Go.RowKit Go.Shelf
set_option linter.unusedVariables false

theorem cell_four_new (w : World) (a b c d : Value) (t : TypeId) : ∀ j u, [a, b, c, d][j]? = some u → (w.alloc (.cells #[a, b, c, d] t)).cell? ((⟨w.heap.size, 0, none⟩ : Addr).add j) = some u := by
  intro j u hj
  match j, hj with
  | 0, hj => simp at hj; subst hj; simp [Addr.add]
  | 1, hj => simp at hj; subst hj; simp [Addr.add]
  | 2, hj => simp at hj; subst hj; simp [Addr.add]
  | 3, hj => simp at hj; subst hj; simp [Addr.add]
  | n + 4, hj => simp at hj
theorem holds_of {w : World} {base n cap : Nat} {ao : Option Addr} {xs : List Value} (h : w.ownsRow base 3 1 (.slice ao n cap) n xs) : ∀ b, ao = some b → ∀ j u, xs[j]? = some u → w.cell? (b.add j) = some u := by
  intro b hb j u hj
  subst hb
  rcases h.2 with ⟨e, _⟩ | ⟨g, cp, cur, e, _⟩
  · cases e
  · injection e with e1 e2 e3
    cases e1
    exact h.cells rfl j u hj
theorem below_of_none {w w' : World} (h : w.grownBy w' none) : Below w.heap.size w w' := ⟨h.os, h.tape, h.output, h.size, fun k hk => h.block k hk (by simp)⟩
/-- an append that had to grow, behind the making of what is appended: nothing old has turned -/
theorem below_grows {w w' : World} {tmp : Obj} (h : (w.alloc tmp).grownBy w' none) : Below w.heap.size w w' :=
  ((Below.refl w.heap.size w).alloc (Nat.le_refl _) tmp).grown h (by simp) (fun k e => by cases e)
theorem marked_of {w : World} {base n k : Nat} {v : Value} {X : Int} (h : w.ownsRow base 3 1 v (n + k) (List.replicate n (.int .i64 X) ++ List.replicate k (.int .i64 X))) (hn : n + k ≤ 1000) : Marked w w.heap.size v X := by
  rw [List.replicate_append_replicate] at h
  exact ⟨n + k, ownsRow_mono h (Nat.zero_le _), hn, fun g hg => (h.lt g hg).2⟩

set_option maxRecDepth 100000 in
set_option maxHeartbeats 2000000 in
theorem keepInts_any (K base top n : Nat) (L xs : List Value) (v : Value) (w : World) (hk : BookI w K base top L) (hv : Fresh w top v n xs) (hxs : xs.length = n) (hn : n ≤ 900) (hL : L.length ≤ 100000000) (h4 : L.length % 4 = 0) (hbK : base ≤ K) (hbt : base ≤ top) :
    Calls Try.prog 14 #[.pointer (some ⟨K, 0, none⟩), v] w fun e w' => e = .returned (.tuple #[]) ∧ Below base w w' ∧ ∃ L', BookI w' K base w'.heap.size L' ∧ L'.length = L.length + 4 := by
  obtain ⟨i0, hi, hz0, hz1, hz2⟩ := info_parts Try.info3
  obtain ⟨i5, hi5, hy0, hy1, hy2⟩ := info_parts Try.info45
  obtain ⟨ao, rfl, hao⟩ := hv.slice
  have hown0 : w.ownsRow 0 3 1 (.slice ao n n) n xs := by
    rcases hv with ⟨e, rfl, rfl⟩ | ⟨g, _, _, h⟩
    · rw [e]; exact World.ownsRow_nil _ _ _ _
    · exact h
  have HV := hide hv
  have HAO := hide hao
  obtain ⟨kv, hkb, hkr⟩ := hk.book
  obtain ⟨ko, kc, rfl, _⟩ := row_slice hkr
  have ck := (cells_of_three hkb).1
  have HK := hide hk
  have htop := hk.top_le
  have HXS := hide hxs
  have H4 := hide h4
  clear hv hao hkb hkr hk hxs h4
  go_enter Try.func14, Try.ntmps14
  go_wp2
  go_loopw [5] (fun i wr => ∃ (k : Nat), k ≤ n ∧ i = .int .i64 (k : Int) ∧ wr.ownsRow 0 3 1 (.slice ao n n) n (List.replicate k (.int .i64 (-1 - (L.length : Int))) ++ xs.drop k) ∧ BookI wr K base top L ∧ Below base w wr) (fun i _ => n - (intOf i).toNat)
  case atStart => exact ⟨0, by omega, rfl, by simpa using hown0, HK.out, Below.refl _ _⟩
  case round =>
    obtain ⟨k, hkn, rfl, hown, hbk, hB⟩ := hrel
    by_cases hlt : k < n
    · rcases HV.out with ⟨e, e2, _⟩ | ⟨g, e, hg, _⟩
      · omega
      injection e with e1 e2 e3
      subst e1
      have hc := hown.cellAt k (by omega)
      have hf := hown.frozenAt k
      have hst := hown.stored k (.int .i64 (-1 - (L.length : Int)))
      have hset := set_step (X := .int .i64 (-1 - (L.length : Int))) (xs := xs) (k := k) (by rw [HXS.out]; exact hlt)
      rw [hset] at hst
      obtain ⟨cv, hcv⟩ : ∃ cv, (List.replicate k (Value.int .i64 (-1 - (L.length : Int))) ++ xs.drop k)[k]? = some cv := by
        have hl := HXS.out
        exact ⟨_, List.getElem?_eq_getElem (by simp; omega)⟩
      rw [hcv] at hc
      have hblk : ∃ cur, wr.heap[g]? = some (.cells cur 3 (0, 0)) := by
        rcases hown.2 with ⟨e, _⟩ | ⟨g', c', cur, e, _, hh, _⟩
        · cases e
        · injection e with e1 e2 e3
          cases e1
          exact ⟨cur, hh⟩
      obtain ⟨cur, hblk⟩ := hblk
      have hbk2 := hbk.setCell (j := k) (u := .int .i64 (-1 - (L.length : Int))) hblk hg
      have HST := hide hst
      have HBK := hide hbk2
      clear hst hset hcv hbk2 hbk
      go_wp2
      go_roundw
      case rel => exact ⟨k + 1, by omega, by go_num, HST.out.1, HBK.out, hB.setCell (p := ⟨g, k, none⟩) (Nat.le_trans hbt hg) _⟩
      case measure => simp [intOf]; omega
    · have hrep : List.replicate k (Value.int .i64 (-1 - (L.length : Int))) ++ xs.drop k = List.replicate n (.int .i64 (-1 - (L.length : Int))) := by
        have e : k = n := by omega
        have hl := HXS.out
        rw [e, List.drop_eq_nil_iff.2 (by omega), List.append_nil]
      rw [hrep] at hown
      clear hrep
      have hsz := hB.size
      go_wp2_with (first
        | (at_builtin; refine wpList_append_grows _ rfl (.tmp 25) (.tmp 27) 45 rfl 3 i0 (.int .i64 0) 1 8 Try.underlying45 hi hz0 hz1 hz2 rfl (by decide) ao n n (List.replicate n (.int .i64 (-1 - (L.length : Int)))) rfl (fun h => ⟨HAO.out h, HAO.out h⟩) (by simp) (holds_of (World.ownsRow.alloc hown _)) ⟨_, 0, none⟩ 1 1 [(.int .i64 (-1 - (L.length : Int)))] rfl rfl (cell_one_new _ _ _) (by simp [Value.oneCell']) (by omega) (by unfold maxLen; omega) (by omega) ?_; intro v1 w1 hown1 hgrow1; obtain ⟨g1, c1, rfl⟩ := ownsRow_succ hown1; have bl1 := below_grows hgrow1; have o1 := ownsRow_below hown bl1)
        | (at_builtin; refine wpList_append_grows _ rfl (.tmp 29) (.tmp 32) 45 rfl 3 i0 (.int .i64 0) 1 8 Try.underlying45 hi hz0 hz1 hz2 rfl (by decide) ao n n (List.replicate n (.int .i64 (-1 - (L.length : Int)))) rfl (fun h => ⟨HAO.out h, HAO.out h⟩) (by simp) (holds_of (World.ownsRow.alloc o1 _)) ⟨_, 0, none⟩ 2 2 [(.int .i64 (-1 - (L.length : Int))), (.int .i64 (-1 - (L.length : Int)))] rfl rfl (cell_two_new _ _ _ _) (by simp [Value.oneCell']) (by omega) (by unfold maxLen; omega) (by omega) ?_; intro v2 w2 hown2 hgrow2; obtain ⟨g2, c2, rfl⟩ := ownsRow_succ hown2; have bl2 := below_grows hgrow2; have o2 := ownsRow_below o1 bl2)
        | (at_builtin; refine wpList_append_grows _ rfl (.tmp 34) (.tmp 38) 45 rfl 3 i0 (.int .i64 0) 1 8 Try.underlying45 hi hz0 hz1 hz2 rfl (by decide) ao n n (List.replicate n (.int .i64 (-1 - (L.length : Int)))) rfl (fun h => ⟨HAO.out h, HAO.out h⟩) (by simp) (holds_of (World.ownsRow.alloc o2 _)) ⟨_, 0, none⟩ 3 3 [(.int .i64 (-1 - (L.length : Int))), (.int .i64 (-1 - (L.length : Int))), (.int .i64 (-1 - (L.length : Int)))] rfl rfl (cell_three_new _ _ _ _ _) (by simp [Value.oneCell']) (by omega) (by unfold maxLen; omega) (by omega) ?_; intro v3 w3 hown3 hgrow3; obtain ⟨g3, c3, rfl⟩ := ownsRow_succ hown3; have bl3 := below_grows hgrow3; have o3 := ownsRow_below o2 bl3; have bk3 := ((hbk.below bl1).below bl2).below bl3; obtain ⟨kv3, hkb3, hkr3⟩ := bk3.book; obtain ⟨ko3, kc3, rfl, _⟩ := row_slice hkr3; have ck3 := (cells_of_three hkb3).1)
        | (at_builtin; refine wpList_append_own _ rfl (.tmp 44) (.tmp 49) 24 rfl base 45 i5 (.slice none 0 0) 1 24 Try.underlying24 hi5 hy0 hy1 hy2 rfl (by decide) _ _ _ rfl (World.ownsRow.alloc hkr3 _) ⟨_, 0, none⟩ 4 4 [.slice ao n n, .slice (some ⟨g1, 0, none⟩) (n + 1) c1, .slice (some ⟨g2, 0, none⟩) (n + 2) c2, .slice (some ⟨g3, 0, none⟩) (n + 3) c3] rfl rfl (cell_four_new _ _ _ _ _ _) (by simp [Value.oneCell']) (by unfold maxLen; omega) (by omega) (by have h1 := bl1.size; have h2 := bl2.size; have h3 := bl3.size; simp; omega) ?_; intro v4 w4 hown4 hgrow4 _; obtain ⟨g4, c4, rfl⟩ := ownsRow_succ hown4; have hK4 := book_grown hkb3 hkr3 (by decide) hgrow4; have ck4 := (cells_of_three hK4).1; have cf4 := free_of_three (j := 0) hK4))
      go_end0
      have s1 := bl1.size
      have s2 := bl2.size
      have s3 := bl3.size
      have r1 : List.replicate n (Value.int .i64 (-1 - (L.length : Int))) ++ [.int .i64 (-1 - (L.length : Int))] = List.replicate n (.int .i64 (-1 - (L.length : Int))) ++ List.replicate 1 (.int .i64 (-1 - (L.length : Int))) := rfl
      have r2 : List.replicate n (Value.int .i64 (-1 - (L.length : Int))) ++ [.int .i64 (-1 - (L.length : Int)), .int .i64 (-1 - (L.length : Int))] = List.replicate n (.int .i64 (-1 - (L.length : Int))) ++ List.replicate 2 (.int .i64 (-1 - (L.length : Int))) := rfl
      have r3 : List.replicate n (Value.int .i64 (-1 - (L.length : Int))) ++ [.int .i64 (-1 - (L.length : Int)), .int .i64 (-1 - (L.length : Int)), .int .i64 (-1 - (L.length : Int))] = List.replicate n (.int .i64 (-1 - (L.length : Int))) ++ List.replicate 3 (.int .i64 (-1 - (L.length : Int))) := rfl
      rw [r1] at hown1
      rw [r2] at hown2
      rw [r3] at hown3
      have b13 : Below w1.heap.size w1 w3 := bl2.trans (bl3.mono s2)
      have m0 : Marked w3 w3.heap.size (.slice ao n n) (-1 - (L.length : Int)) := ⟨n, o3, by omega, fun g hg => (o3.lt g hg).2⟩
      have m1 : Marked w3 w3.heap.size (.slice (some ⟨g1, 0, none⟩) (n + 1) c1) (-1 - (L.length : Int)) := marked_of (ownsRow_below hown1 b13) (by omega)
      have m2 : Marked w3 w3.heap.size (.slice (some ⟨g2, 0, none⟩) (n + 2) c2) (-1 - (L.length : Int)) := marked_of (ownsRow_below hown2 bl3) (by omega)
      have m3 : Marked w3 w3.heap.size (.slice (some ⟨g3, 0, none⟩) (n + 3) c3) (-1 - (L.length : Int)) := marked_of hown3 (by omega)
      have hP := bk3.push hkb3 hkr3 (N := [.slice ao n n, .slice (some ⟨g1, 0, none⟩) (n + 1) c1, .slice (some ⟨g2, 0, none⟩) (n + 2) c2, .slice (some ⟨g3, 0, none⟩) (n + 3) c3]) (by
        intro i hi
        match i, hi with
        | 0, _ => rw [markOf_four H4.out (by omega)]; exact m0
        | 1, _ => rw [markOf_four H4.out (by omega)]; exact m1
        | 2, _ => rw [markOf_four H4.out (by omega)]; exact m2
        | 3, _ => rw [markOf_four H4.out (by omega)]; exact m3
        | i + 4, hi => exact absurd hi (by simp)) hown4 hgrow4
      have bw3 : Below base w w3 := ((hB.trans (bl1.mono (by omega))).trans (bl2.mono (by omega))).trans (bl3.mono (by omega))
      have bw4 : Below base w w4 := (bw3.alloc (by omega) _).grown hgrow4 (by simp; omega) (fun k hk => (hkr3.lt k hk).1)
      exact ⟨rfl, bw4.setCell (p := ⟨K, 0, none⟩) hbK _, _, hP, by simp⟩
end Go.Proofs.Ytlkhmldceekdaaa

/- wire.appendMove. -/
namespace Go.Proofs.Ytlkhmldceekdaaa
open Go.RowKit Go.Shelf
open Go.Lib (strCells strCells_length wpList_append_own_string)
set_option linter.unusedVariables false

theorem Try.info5 : (Try.prog.info? 5).map (fun i => (i.zero, i.size, i.bytes)) = some (some (.int .u8 0), 1, 1) := by kernel_rfl

theorem cell_one_at (w : World) (x : Value) (t : TypeId) (b : Nat) (h : w.heap.size = b) : ∀ j u, [x][j]? = some u → (w.alloc (.cells #[x] t)).cell? ((⟨b, 0, none⟩ : Addr).add j) = some u := by
  subst h; exact cell_one_new w x t
/-- text: a row of bytes of the call's own -/
def Text (w : World) (base : Nat) (v : Value) (s : ByteArray) : Prop := w.ownsRow base 5 1 v s.size (strCells s)
theorem text_push {w : World} {base : Nat} {v : Value} {s : ByteArray} {n : Int} (h : w.ownsRow base 5 1 v (s.size + 1) (strCells s ++ [.int .u8 n])) (h0 : 0 ≤ n) (h1 : n < 256) : Text w base v (s ++ oneB n) := by
  unfold Text
  rw [strCells_append, strCells_one h0 h1, ByteArray.size_append, oneB_size]
  exact h
theorem text_app {w : World} {base : Nat} {v : Value} {s t : ByteArray} (h : w.ownsRow base 5 1 v (s.size + t.size) (strCells s ++ strCells t)) : Text w base v (s ++ t) := by
  unfold Text
  rw [strCells_append, ByteArray.size_append]
  exact h
theorem text_below {w w' : World} {base : Nat} {v : Value} {s : ByteArray} {tmp : Obj} (h : Text w base v s) (hb : base ≤ w.heap.size) (hg : (w.alloc tmp).grownBy w' v.ownBlock) : Below base w w' :=
  ((Below.refl base w).alloc hb tmp).grown hg (by simp; omega) (fun k hk => (World.ownsRow.lt h k hk).1)
theorem text_below' {w w' : World} {base : Nat} {v : Value} {s : ByteArray} (h : Text w base v s) (hb : base ≤ w.heap.size) (hg : w.grownBy w' v.ownBlock) : Below base w w' :=
  (Below.refl base w).grown hg hb (fun k hk => (World.ownsRow.lt h k hk).1)

/-- a box of another type is not touched by an append onto the text -/
theorem box_kept {W W' : World} {b base n : Nat} {cs : Array Value} {t : TypeId} {v : Value} {xs : List Value} (hb : W.heap[b]? = some (.cells cs t (0, 0))) (h : W.ownsRow base 5 1 v n xs) (ht : t ≠ 5) (hg : W.grownBy W' v.ownBlock) : W'.heap[b]? = some (.cells cs t (0, 0)) := by
  refine (hg.block b (lt_of_block hb) ?_).trans hb
  rcases h.2 with ⟨rfl, _⟩ | ⟨R, cap, cur, rfl, _, hR, _⟩
  · simp [Value.ownBlock]
  · intro e
    obtain rfl : b = R := by simpa [Value.ownBlock] using e
    rw [hb] at hR
    simp at hR
    exact ht hR.2
theorem box_alloc {W : World} {b : Nat} {o o' : Obj} (hb : W.heap[b]? = some o) : (W.alloc o').heap[b]? = some o :=
  (((Below.refl W.heap.size W).alloc (Nat.le_refl _) o').block b (lt_of_block hb)).trans hb
theorem box_read {W : World} {b i : Nat} {cs : Array Value} {t : TypeId} {u : Value} (hb : W.heap[b]? = some (.cells cs t (0, 0))) (hi : cs[i]? = some u) : W.cell? ⟨b, i, none⟩ = some u := by
  simp only [World.cell?, hb]
  exact hi
/-- where the box's block stays -/
theorem box_grown {W W' : World} {base : Nat} {v : Value} {n : Nat} {xs : List Value} {o o1 : Obj} (h : W.ownsRow base 5 1 v n xs) (hb : base ≤ W.heap.size) (hg : ((W.alloc o).alloc o1).grownBy W' v.ownBlock) : Below base W W' :=
  (((Below.refl base W).alloc hb o).alloc (by simp; omega) o1).grown hg (by simp; omega) (fun k hk => (World.ownsRow.lt h k hk).1)
theorem app_one {W W' : World} {base n : Nat} {v : Value} {xs : List Value} {o : Obj} (h : W.ownsRow base 5 1 v n xs) (hb : base ≤ W.heap.size) (hg : (W.alloc o).grownBy W' v.ownBlock) : Below base W W' :=
  ((Below.refl base W).alloc hb o).grown hg (by simp; omega) (fun k hk => (World.ownsRow.lt h k hk).1)
theorem app_str {W W' : World} {base n : Nat} {v : Value} {xs : List Value} (h : W.ownsRow base 5 1 v n xs) (hb : base ≤ W.heap.size) (hg : W.grownBy W' v.ownBlock) : Below base W W' :=
  (Below.refl base W).grown hg hb (fun k hk => (World.ownsRow.lt h k hk).1)

set_option maxRecDepth 100000 in
set_option maxHeartbeats 2000000 in
theorem appendMove_any (base : Nat) (v : Value) (s : ByteArray) (x : Mv) (w : World) (ht : Text w base v s) (hb : base ≤ w.heap.size) (hs : s.size ≤ 100000) (hp : -1 ≤ x.prep ∧ x.prep ≤ 8) (hy : 0 ≤ x.by' ∧ x.by' ≤ 127) (hc : x.chain.size ≤ 21) :
    Calls Try.prog 48 #[v, mvV x] w fun e w' => ∃ v', e = .returned v' ∧ Text w' base v' (s ++ mvB x.prep x.chain x.by') ∧ Below base w w' := by
  obtain ⟨i0, hi, hz0, hz1, hz2⟩ := info_parts Try.info5
  obtain ⟨n, q, d, y⟩ := x
  dsimp only at hp hy hc ⊢
  have HT := hide ht
  have HX := hide (World.alloc_heap_new w (.cells #[.int .i64 n, .int .i64 q, .string d, .int .i64 y] 43 (0, 0)))
  clear ht
  by_cases h1 : q = -1
  · have HM : Hid (mvB q d y = oneB (q + 1)) := by show _ = _; unfold mvB; rw [if_pos h1, h1]; rfl
    have hpB : (q == -1) = true := by simp [h1]
    clear h1
    go_enter Try.func48, Try.ntmps48
    go_wp2_with (at_builtin; refine wpList_append_own _ rfl (.tmp 5) (.tmp 10) 80 rfl base 5 i0 (.int .u8 0) 1 1 Try.underlying80 hi hz0 hz1 hz2 rfl (by decide) v _ _ rfl (World.ownsRow.alloc (World.ownsRow.alloc HT.out _) _) ⟨_, 0, none⟩ 1 1 [.int .u8 (q + 1)] rfl rfl (cell_one_at _ _ _ _ (by simp)) (by simp [Value.oneCell']) (by unfold maxLen; omega) (by omega) (by simp; omega) ?_; intro v4 w4 hown4 hgrow4 _; have hx4 := box_kept (box_alloc HX.out) (World.ownsRow.alloc (World.ownsRow.alloc HT.out _) _) (by decide) hgrow4; have y4 := box_read (i := 1) hx4 rfl)
    go_ret
    refine ⟨_, rfl, ?_, box_grown HT.out hb hgrow4⟩
    rw [HM.out]
    exact text_push hown4 (by omega) (by omega)
  · have HM : Hid (mvB q d y = oneB (q + 1) ++ d ++ oneB y) := if_neg h1
    have hpB : (q == -1) = false := by simp [h1]
    clear h1
    go_enter Try.func48, Try.ntmps48
    go_wp2_with (first
      | (at_builtin; refine wpList_append_own _ rfl (.tmp 5) (.tmp 10) 80 rfl base 5 i0 (.int .u8 0) 1 1 Try.underlying80 hi hz0 hz1 hz2 rfl (by decide) v _ _ rfl (World.ownsRow.alloc (World.ownsRow.alloc HT.out _) _) ⟨_, 0, none⟩ 1 1 [.int .u8 (q + 1)] rfl rfl (cell_one_at _ _ _ _ (by simp)) (by simp [Value.oneCell']) (by unfold maxLen; omega) (by omega) (by simp; omega) ?_; intro v4 w4 hown4 hgrow4 _; have hx4 := box_kept (box_alloc HX.out) (World.ownsRow.alloc (World.ownsRow.alloc HT.out _) _) (by decide) hgrow4; have y4 := box_read (i := 1) hx4 rfl; have y5 := box_read (i := 2) hx4 rfl; have bl4 := box_grown HT.out hb hgrow4; have t4 := text_push hown4 (by omega) (by omega); have T4 := hide t4; clear t4)
      | (at_builtin; refine wpList_append_own_string _ rfl (.tmp 16) (.tmp 18) 80 9 rfl base 5 i0 Try.underlying80 Try.underlying9 hi hz0 hz1 hz2 v4 _ _ rfl T4.out d rfl (by unfold maxLen; simp [ByteArray.size_append, oneB_size]; omega) (by simp [ByteArray.size_append, oneB_size]; omega) (by have := bl4.size; omega) ?_; intro v5 w5 hown5 hgrow5 _; have hx5 := box_kept hx4 T4.out (by decide) hgrow5; have y6 := box_read (i := 3) hx5 rfl; have bl5 := app_str T4.out (by have := bl4.size; omega) hgrow5; have t5 := text_app hown5; have T5 := hide t5; clear t5)
      | (at_builtin; refine wpList_append_own _ rfl (.tmp 20) (.tmp 24) 80 rfl base 5 i0 (.int .u8 0) 1 1 Try.underlying80 hi hz0 hz1 hz2 rfl (by decide) v5 _ _ rfl (World.ownsRow.alloc T5.out _) ⟨_, 0, none⟩ 1 1 [.int .u8 y] rfl rfl (cell_one_at _ _ _ _ (by simp)) (by simp [Value.oneCell']) (by unfold maxLen; simp [ByteArray.size_append, oneB_size]; omega) (by simp [ByteArray.size_append, oneB_size]; omega) (by have := bl4.size; have := bl5.size; simp; omega) ?_; intro v6 w6 hown6 hgrow6 _; have bl6 := app_one T5.out (by have := bl4.size; have := bl5.size; omega) hgrow6))
    go_ret
    refine ⟨_, rfl, ?_, (bl4.trans bl5).trans bl6⟩
    rw [HM.out, ← ByteArray.append_assoc, ← ByteArray.append_assoc]
    exact text_push hown6 (by omega) (by omega)
end Go.Proofs.Ytlkhmldceekdaaa

/- wire.Encode, but for Propose. -/
namespace Go.Proofs.Ytlkhmldceekdaaa
open Go.RowKit Go.Shelf
open Go.Lib (strCells strCells_length wpList_append_own_string)
set_option linter.unusedVariables false

theorem mayBe_is (t : Bool) (m : Mg) (v : Value) (w : World) (hv : MovesAt w v m.moves) (hc : m.chain.size ≤ maxLen) (ht : mayB m = t) :
    Calls Try.prog 47 #[mgV m v] w fun e w' => e = .returned (.bool t) ∧ Below w.heap.size w w' := by
  rw [← ht]; exact mayBe_any m v w hv hc
/-- the four bytes that a message begins with -/
theorem text_head {w : World} {base : Nat} (m : Mg) (hb : base ≤ w.heap.size) (h1 : 1 ≤ m.kind ∧ m.kind ≤ 6) (h2 : 0 ≤ m.frm ∧ m.frm ≤ 6) (h3 : 1 ≤ m.height ∧ m.height ≤ 7) (h4 : 0 ≤ m.round ∧ m.round ≤ 9) :
    Text (w.alloc (.cells #[.int .u8 m.kind, .int .u8 m.frm, .int .u8 m.height, .int .u8 m.round] 5)) base (.slice (some ⟨w.heap.size, 0, none⟩) 4 4) (headB m) := by
  have hc : strCells (headB m) = [.int .u8 m.kind, .int .u8 m.frm, .int .u8 m.height, .int .u8 m.round] := by
    unfold headB
    rw [strCells_append, strCells_append, strCells_append, strCells_one (by omega) (by omega), strCells_one (by omega) (by omega), strCells_one (by omega) (by omega), strCells_one (by omega) (by omega)]
    rfl
  unfold Text
  rw [hc]
  refine ⟨rfl, .inr ⟨w.heap.size, 4, _, rfl, hb, World.alloc_heap_new w _, Nat.le_refl 4, (by unfold maxLen; exact (by decide : (4 : Nat) ≤ 2 ^ 63 - 1)), rfl, rfl⟩⟩
theorem headB_size (m : Mg) : (headB m).size = 4 := rfl

set_option maxRecDepth 100000 in
set_option maxHeartbeats 2000000 in
theorem wEnc_no (m : Mg) (v : Value) (w : World) (hv : MovesAt w v m.moves) (hc : m.chain.size ≤ maxLen) (hm : mayB m = false) :
    Calls Try.prog 29 #[mgV m v] w fun e w' => e = .returned (.tuple #[.string ByteArray.empty, .int .i64 2]) ∧ Below w.heap.size w w' := by
  have HV := hide hv
  have HM := hide hm
  obtain ⟨ao, n, cap, hvs⟩ := hv.slice
  clear hv hm
  obtain ⟨k, f, h, r, c, p, b, l⟩ := m
  dsimp only at hc HV
  subst hvs
  go_enter Try.func29, Try.ntmps29
  go_wp2_with (go_at_call 47; refine (mayBe_is false ⟨k, f, h, r, c, p, b, l⟩ _ _ (HV.out.below ((Below.refl _ w).alloc (Nat.le_refl _) _)) hc HM.out).mono ?_; rintro e w1 ⟨rfl, hb1⟩)
  go_ret2
  exact ⟨rfl, ((Below.refl _ w).alloc (Nat.le_refl _) _).trans (hb1.mono (by simp))⟩

set_option maxRecDepth 100000 in
set_option maxHeartbeats 4000000 in
theorem wEnc6 (m : Mg) (v : Value) (w : World) (hv : MovesAt w v m.moves) (hm : mayB m = true) (hk : m.kind = 6) :
    Calls Try.prog 29 #[mgV m v] w fun e w' => e = .returned (.tuple #[.string (encB m), .int .i64 0]) ∧ Below w.heap.size w w' := by
  obtain ⟨i0, hi, hz0, hz1, hz2⟩ := info_parts Try.info5
  have HE := hide (enc6_eq hk)
  obtain ⟨f1, f2, f3, f4, f5, f6, f7, f8, f9⟩ := may_facts hm
  have hv1 := hide hv.slice
  have HV := hide hv
  have HM := hide hm
  have F9 := hide f9
  obtain ⟨ao, cap, hvs, hcell⟩ := hv.1
  have HC := hide hcell
  clear hv hm f9 hcell
  obtain ⟨k, f, h, r, c, p, b, l⟩ := m
  dsimp only at f1 f2 f3 f4 f5 f6 f7 f8 HV hk F9 HC hvs hv1
  have hc : c.size ≤ maxLen := by unfold maxLen; omega
  subst hvs hk
  have hB0 : Below w.heap.size w (w.alloc (.cells #[.int .i64 6, .int .i64 f, .int .i64 h, .int .i64 r, .string c, .int .i64 p, .int .i64 b, .slice ao l.length cap] 39)) := (Below.refl _ w).alloc (Nat.le_refl _) _
  have HX := hide (World.alloc_heap_new w (.cells #[.int .i64 6, .int .i64 f, .int .i64 h, .int .i64 r, .string c, .int .i64 p, .int .i64 b, .slice ao l.length cap] 39 (0, 0)))
  go_enter Try.func29, Try.ntmps29
  go_wp2_with (go_at_call 47; refine (mayBe_is true ⟨6, f, h, r, c, p, b, l⟩ _ _ (HV.out.below ((Below.refl _ w).alloc (Nat.le_refl _) _)) hc HM.out).mono ?_; rintro e w1 ⟨rfl, hb1⟩; obtain ⟨z0, z1, z2, z3, z4, z5, z6, z7⟩ := box8 hb1; have hs1 : w.heap.size + 1 ≤ w1.heap.size := (by have := hb1.size; rw [World.size_alloc] at this; exact this); have hx1 := (hb1.block w.heap.size (by simp)).trans HX.out; have T1 := hide (text_head (w := w1) (base := w.heap.size + 1) ⟨6, f, h, r, c, p, b, l⟩ hs1 f1 f2 f3 f4); have bl1 : Below (w.heap.size + 1) (w.alloc (.cells #[.int .i64 6, .int .i64 f, .int .i64 h, .int .i64 r, .string c, .int .i64 p, .int .i64 b, .slice ao l.length cap] 39)) (w1.alloc (.cells #[.int .u8 6, .int .u8 f, .int .u8 h, .int .u8 r] 5)) := (hb1.mono (by simp)).alloc hs1 _; have hx2 := box_alloc (o' := .cells #[.int .u8 6, .int .u8 f, .int .u8 h, .int .u8 r] 5) hx1; have q0 := box_read (i := 0) hx2 rfl; have q1 := box_read (i := 1) hx2 rfl; have q2 := box_read (i := 2) hx2 rfl; have q3 := box_read (i := 3) hx2 rfl; have q4 := box_read (i := 4) hx2 rfl; have q5 := box_read (i := 5) hx2 rfl; have q6 := box_read (i := 6) hx2 rfl; have q7 := box_read (i := 7) hx2 rfl; have cv := run_string_of T1.out (by rw [headB_size]; decide))
  go_ret2
  refine ⟨?_, hB0.trans (bl1.mono (Nat.le_succ _))⟩
  rw [HE.out]
  rfl

set_option maxRecDepth 100000 in
set_option maxHeartbeats 4000000 in
theorem wEnc2 (m : Mg) (v : Value) (w : World) (hv : MovesAt w v m.moves) (hm : mayB m = true) (hk : m.kind = 2) :
    Calls Try.prog 29 #[mgV m v] w fun e w' => e = .returned (.tuple #[.string (encB m), .int .i64 0]) ∧ Below w.heap.size w w' := by
  obtain ⟨i0, hi, hz0, hz1, hz2⟩ := info_parts Try.info5
  have HE := hide (enc23_eq (Or.inl hk))
  obtain ⟨f1, f2, f3, f4, f5, f6, f7, f8, f9⟩ := may_facts hm
  have hv1 := hide hv.slice
  have HV := hide hv
  have HM := hide hm
  have F9 := hide f9
  obtain ⟨ao, cap, hvs, hcell⟩ := hv.1
  have HC := hide hcell
  clear hv hm f9 hcell
  obtain ⟨k, f, h, r, c, p, b, l⟩ := m
  dsimp only at f1 f2 f3 f4 f5 f6 f7 f8 HV hk F9 HC hvs hv1
  have hc : c.size ≤ maxLen := by unfold maxLen; omega
  subst hvs hk
  have hB0 : Below w.heap.size w (w.alloc (.cells #[.int .i64 2, .int .i64 f, .int .i64 h, .int .i64 r, .string c, .int .i64 p, .int .i64 b, .slice ao l.length cap] 39)) := (Below.refl _ w).alloc (Nat.le_refl _) _
  have HX := hide (World.alloc_heap_new w (.cells #[.int .i64 2, .int .i64 f, .int .i64 h, .int .i64 r, .string c, .int .i64 p, .int .i64 b, .slice ao l.length cap] 39 (0, 0)))
  go_enter Try.func29, Try.ntmps29
  go_wp2_with (first
    | (go_at_call 47; refine (mayBe_is true ⟨2, f, h, r, c, p, b, l⟩ _ _ (HV.out.below ((Below.refl _ w).alloc (Nat.le_refl _) _)) hc HM.out).mono ?_; rintro e w1 ⟨rfl, hb1⟩; obtain ⟨z0, z1, z2, z3, z4, z5, z6, z7⟩ := box8 hb1; have hs1 : w.heap.size + 1 ≤ w1.heap.size := (by have := hb1.size; rw [World.size_alloc] at this; exact this); have hx1 := (hb1.block w.heap.size (by simp)).trans HX.out; have T1 := hide (text_head (w := w1) (base := w.heap.size + 1) ⟨2, f, h, r, c, p, b, l⟩ hs1 f1 f2 f3 f4); have bl1 : Below (w.heap.size + 1) (w.alloc (.cells #[.int .i64 2, .int .i64 f, .int .i64 h, .int .i64 r, .string c, .int .i64 p, .int .i64 b, .slice ao l.length cap] 39)) (w1.alloc (.cells #[.int .u8 2, .int .u8 f, .int .u8 h, .int .u8 r] 5)) := (hb1.mono (by simp)).alloc hs1 _; have hx2 := box_alloc (o' := .cells #[.int .u8 2, .int .u8 f, .int .u8 h, .int .u8 r] 5) hx1; have q0 := box_read (i := 0) hx2 rfl; have q1 := box_read (i := 1) hx2 rfl; have q2 := box_read (i := 2) hx2 rfl; have q3 := box_read (i := 3) hx2 rfl; have q4 := box_read (i := 4) hx2 rfl; have q5 := box_read (i := 5) hx2 rfl; have q6 := box_read (i := 6) hx2 rfl; have q7 := box_read (i := 7) hx2 rfl)
    | (at_builtin; refine wpList_append_own_string _ rfl (.tmp 58) (.tmp 60) 80 9 rfl (w.heap.size + 1) 5 i0 Try.underlying80 Try.underlying9 hi hz0 hz1 hz2 _ _ _ rfl T1.out c rfl (by unfold maxLen; rw [headB_size]; omega) (by rw [headB_size]; omega) (by simp; omega) ?_; intro v2 w2 hown2 hgrow2 _; have hx3 := box_kept hx2 T1.out (by decide) hgrow2; have y3 := box_read (i := 6) hx3 rfl; have y7 := box_read (i := 7) hx3 rfl; have bl2 := bl1.trans (app_str T1.out (by simp; omega) hgrow2); have T2 := hide (text_app hown2); have cv := run_string_of T2.out (by rw [ByteArray.size_append, headB_size]; omega)))
  go_ret2
  refine ⟨?_, hB0.trans (bl2.mono (Nat.le_succ _))⟩
  rw [HE.out]
  rfl

set_option maxRecDepth 100000 in
set_option maxHeartbeats 4000000 in
theorem wEnc3 (m : Mg) (v : Value) (w : World) (hv : MovesAt w v m.moves) (hm : mayB m = true) (hk : m.kind = 3) :
    Calls Try.prog 29 #[mgV m v] w fun e w' => e = .returned (.tuple #[.string (encB m), .int .i64 0]) ∧ Below w.heap.size w w' := by
  obtain ⟨i0, hi, hz0, hz1, hz2⟩ := info_parts Try.info5
  have HE := hide (enc23_eq (Or.inr hk))
  obtain ⟨f1, f2, f3, f4, f5, f6, f7, f8, f9⟩ := may_facts hm
  have hv1 := hide hv.slice
  have HV := hide hv
  have HM := hide hm
  have F9 := hide f9
  obtain ⟨ao, cap, hvs, hcell⟩ := hv.1
  have HC := hide hcell
  clear hv hm f9 hcell
  obtain ⟨k, f, h, r, c, p, b, l⟩ := m
  dsimp only at f1 f2 f3 f4 f5 f6 f7 f8 HV hk F9 HC hvs hv1
  have hc : c.size ≤ maxLen := by unfold maxLen; omega
  subst hvs hk
  have hB0 : Below w.heap.size w (w.alloc (.cells #[.int .i64 3, .int .i64 f, .int .i64 h, .int .i64 r, .string c, .int .i64 p, .int .i64 b, .slice ao l.length cap] 39)) := (Below.refl _ w).alloc (Nat.le_refl _) _
  have HX := hide (World.alloc_heap_new w (.cells #[.int .i64 3, .int .i64 f, .int .i64 h, .int .i64 r, .string c, .int .i64 p, .int .i64 b, .slice ao l.length cap] 39 (0, 0)))
  go_enter Try.func29, Try.ntmps29
  go_wp2_with (first
    | (go_at_call 47; refine (mayBe_is true ⟨3, f, h, r, c, p, b, l⟩ _ _ (HV.out.below ((Below.refl _ w).alloc (Nat.le_refl _) _)) hc HM.out).mono ?_; rintro e w1 ⟨rfl, hb1⟩; obtain ⟨z0, z1, z2, z3, z4, z5, z6, z7⟩ := box8 hb1; have hs1 : w.heap.size + 1 ≤ w1.heap.size := (by have := hb1.size; rw [World.size_alloc] at this; exact this); have hx1 := (hb1.block w.heap.size (by simp)).trans HX.out; have T1 := hide (text_head (w := w1) (base := w.heap.size + 1) ⟨3, f, h, r, c, p, b, l⟩ hs1 f1 f2 f3 f4); have bl1 : Below (w.heap.size + 1) (w.alloc (.cells #[.int .i64 3, .int .i64 f, .int .i64 h, .int .i64 r, .string c, .int .i64 p, .int .i64 b, .slice ao l.length cap] 39)) (w1.alloc (.cells #[.int .u8 3, .int .u8 f, .int .u8 h, .int .u8 r] 5)) := (hb1.mono (by simp)).alloc hs1 _; have hx2 := box_alloc (o' := .cells #[.int .u8 3, .int .u8 f, .int .u8 h, .int .u8 r] 5) hx1; have q0 := box_read (i := 0) hx2 rfl; have q1 := box_read (i := 1) hx2 rfl; have q2 := box_read (i := 2) hx2 rfl; have q3 := box_read (i := 3) hx2 rfl; have q4 := box_read (i := 4) hx2 rfl; have q5 := box_read (i := 5) hx2 rfl; have q6 := box_read (i := 6) hx2 rfl; have q7 := box_read (i := 7) hx2 rfl)
    | (at_builtin; refine wpList_append_own_string _ rfl (.tmp 58) (.tmp 60) 80 9 rfl (w.heap.size + 1) 5 i0 Try.underlying80 Try.underlying9 hi hz0 hz1 hz2 _ _ _ rfl T1.out c rfl (by unfold maxLen; rw [headB_size]; omega) (by rw [headB_size]; omega) (by simp; omega) ?_; intro v2 w2 hown2 hgrow2 _; have hx3 := box_kept hx2 T1.out (by decide) hgrow2; have y3 := box_read (i := 6) hx3 rfl; have y7 := box_read (i := 7) hx3 rfl; have bl2 := bl1.trans (app_str T1.out (by simp; omega) hgrow2); have T2 := hide (text_app hown2); have cv := run_string_of T2.out (by rw [ByteArray.size_append, headB_size]; omega)))
  go_ret2
  refine ⟨?_, hB0.trans (bl2.mono (Nat.le_succ _))⟩
  rw [HE.out]
  rfl

set_option maxRecDepth 100000 in
set_option maxHeartbeats 4000000 in
theorem wEnc5 (m : Mg) (v : Value) (w : World) (hv : MovesAt w v m.moves) (hm : mayB m = true) (hk : m.kind = 5) :
    Calls Try.prog 29 #[mgV m v] w fun e w' => e = .returned (.tuple #[.string (encB m), .int .i64 0]) ∧ Below w.heap.size w w' := by
  obtain ⟨i0, hi, hz0, hz1, hz2⟩ := info_parts Try.info5
  have HE := hide (enc5_eq hk)
  obtain ⟨f1, f2, f3, f4, f5, f6, f7, f8, f9⟩ := may_facts hm
  have hv1 := hide hv.slice
  have HV := hide hv
  have HM := hide hm
  have F9 := hide f9
  obtain ⟨ao, cap, hvs, hcell⟩ := hv.1
  have HC := hide hcell
  clear hv hm f9 hcell
  obtain ⟨k, f, h, r, c, p, b, l⟩ := m
  dsimp only at f1 f2 f3 f4 f5 f6 f7 f8 HV hk F9 HC hvs hv1
  have hc : c.size ≤ maxLen := by unfold maxLen; omega
  subst hvs hk
  have hB0 : Below w.heap.size w (w.alloc (.cells #[.int .i64 5, .int .i64 f, .int .i64 h, .int .i64 r, .string c, .int .i64 p, .int .i64 b, .slice ao l.length cap] 39)) := (Below.refl _ w).alloc (Nat.le_refl _) _
  have HX := hide (World.alloc_heap_new w (.cells #[.int .i64 5, .int .i64 f, .int .i64 h, .int .i64 r, .string c, .int .i64 p, .int .i64 b, .slice ao l.length cap] 39 (0, 0)))
  go_enter Try.func29, Try.ntmps29
  go_wp2_with (first
    | (go_at_call 47; refine (mayBe_is true ⟨5, f, h, r, c, p, b, l⟩ _ _ (HV.out.below ((Below.refl _ w).alloc (Nat.le_refl _) _)) hc HM.out).mono ?_; rintro e w1 ⟨rfl, hb1⟩; obtain ⟨z0, z1, z2, z3, z4, z5, z6, z7⟩ := box8 hb1; have hs1 : w.heap.size + 1 ≤ w1.heap.size := (by have := hb1.size; rw [World.size_alloc] at this; exact this); have hx1 := (hb1.block w.heap.size (by simp)).trans HX.out; have T1 := hide (text_head (w := w1) (base := w.heap.size + 1) ⟨5, f, h, r, c, p, b, l⟩ hs1 f1 f2 f3 f4); have bl1 : Below (w.heap.size + 1) (w.alloc (.cells #[.int .i64 5, .int .i64 f, .int .i64 h, .int .i64 r, .string c, .int .i64 p, .int .i64 b, .slice ao l.length cap] 39)) (w1.alloc (.cells #[.int .u8 5, .int .u8 f, .int .u8 h, .int .u8 r] 5)) := (hb1.mono (by simp)).alloc hs1 _; have hx2 := box_alloc (o' := .cells #[.int .u8 5, .int .u8 f, .int .u8 h, .int .u8 r] 5) hx1; have q0 := box_read (i := 0) hx2 rfl; have q1 := box_read (i := 1) hx2 rfl; have q2 := box_read (i := 2) hx2 rfl; have q3 := box_read (i := 3) hx2 rfl; have q4 := box_read (i := 4) hx2 rfl; have q5 := box_read (i := 5) hx2 rfl; have q6 := box_read (i := 6) hx2 rfl; have q7 := box_read (i := 7) hx2 rfl)
    | (at_builtin; refine wpList_append_own_string _ rfl (.tmp 70) (.tmp 72) 80 9 rfl (w.heap.size + 1) 5 i0 Try.underlying80 Try.underlying9 hi hz0 hz1 hz2 _ _ _ rfl T1.out c rfl (by unfold maxLen; rw [headB_size]; omega) (by rw [headB_size]; omega) (by simp; omega) ?_; intro v2 w2 hown2 hgrow2 _; have hx3 := box_kept hx2 T1.out (by decide) hgrow2; have y3 := box_read (i := 6) hx3 rfl; have y7 := box_read (i := 7) hx3 rfl; have bl2 := bl1.trans (app_str T1.out (by simp; omega) hgrow2); have T2 := hide (text_app hown2))
    | (at_builtin; refine wpList_append_own _ rfl (.tmp 74) (.tmp 78) 80 rfl (w.heap.size + 1) 5 i0 (.int .u8 0) 1 1 Try.underlying80 hi hz0 hz1 hz2 rfl (by decide) v2 _ _ rfl (World.ownsRow.alloc T2.out _) ⟨_, 0, none⟩ 1 1 [.int .u8 b] rfl rfl (cell_one_at _ _ _ _ (by simp)) (by simp [Value.oneCell']) (by unfold maxLen; rw [ByteArray.size_append, headB_size]; omega) (by rw [ByteArray.size_append, headB_size]; omega) (by have := bl2.size; simp at this ⊢; omega) ?_; intro v3 w3 hown3 hgrow3 _; have bl3 := bl2.trans (app_one T2.out (by have := bl2.size; simp at this ⊢; omega) hgrow3); have T3 := hide (text_push hown3 (by omega) (by omega)); have cv := run_string_of T3.out (by rw [ByteArray.size_append, ByteArray.size_append, headB_size]; omega)))
  go_ret2
  refine ⟨?_, hB0.trans (bl3.mono (Nat.le_succ _))⟩
  rw [HE.out]
  rfl

set_option maxRecDepth 100000 in
set_option maxHeartbeats 4000000 in
theorem wEnc4 (m : Mg) (v : Value) (w : World) (hv : MovesAt w v m.moves) (hm : mayB m = true) (hk : m.kind = 4) :
    Calls Try.prog 29 #[mgV m v] w fun e w' => e = .returned (.tuple #[.string (encB m), .int .i64 0]) ∧ Below w.heap.size w w' := by
  obtain ⟨i0, hi, hz0, hz1, hz2⟩ := info_parts Try.info5
  have HE := hide (enc4_eq hk)
  obtain ⟨f1, f2, f3, f4, f5, f6, f7, f8, f9⟩ := may_facts hm
  have hv1 := hide hv.slice
  have HV := hide hv
  have HM := hide hm
  have F9 := hide f9
  obtain ⟨ao, cap, hvs, hcell⟩ := hv.1
  have HC := hide hcell
  clear hv hm f9 hcell
  obtain ⟨k, f, h, r, c, p, b, l⟩ := m
  dsimp only at f1 f2 f3 f4 f5 f6 f7 f8 HV hk F9 HC hvs hv1
  have hc : c.size ≤ maxLen := by unfold maxLen; omega
  subst hvs hk
  have hB0 : Below w.heap.size w (w.alloc (.cells #[.int .i64 4, .int .i64 f, .int .i64 h, .int .i64 r, .string c, .int .i64 p, .int .i64 b, .slice ao l.length cap] 39)) := (Below.refl _ w).alloc (Nat.le_refl _) _
  have HX := hide (World.alloc_heap_new w (.cells #[.int .i64 4, .int .i64 f, .int .i64 h, .int .i64 r, .string c, .int .i64 p, .int .i64 b, .slice ao l.length cap] 39 (0, 0)))
  go_enter Try.func29, Try.ntmps29
  go_wp2_with (first
    | (go_at_call 47; refine (mayBe_is true ⟨4, f, h, r, c, p, b, l⟩ _ _ (HV.out.below ((Below.refl _ w).alloc (Nat.le_refl _) _)) hc HM.out).mono ?_; rintro e w1 ⟨rfl, hb1⟩; obtain ⟨z0, z1, z2, z3, z4, z5, z6, z7⟩ := box8 hb1; have hs1 : w.heap.size + 1 ≤ w1.heap.size := (by have := hb1.size; rw [World.size_alloc] at this; exact this); have hx1 := (hb1.block w.heap.size (by simp)).trans HX.out; have T1 := hide (text_head (w := w1) (base := w.heap.size + 1) ⟨4, f, h, r, c, p, b, l⟩ hs1 f1 f2 f3 f4); have bl1 : Below (w.heap.size + 1) (w.alloc (.cells #[.int .i64 4, .int .i64 f, .int .i64 h, .int .i64 r, .string c, .int .i64 p, .int .i64 b, .slice ao l.length cap] 39)) (w1.alloc (.cells #[.int .u8 4, .int .u8 f, .int .u8 h, .int .u8 r] 5)) := (hb1.mono (by simp)).alloc hs1 _; have hx2 := box_alloc (o' := .cells #[.int .u8 4, .int .u8 f, .int .u8 h, .int .u8 r] 5) hx1; have q0 := box_read (i := 0) hx2 rfl; have q1 := box_read (i := 1) hx2 rfl; have q2 := box_read (i := 2) hx2 rfl; have q3 := box_read (i := 3) hx2 rfl; have q4 := box_read (i := 4) hx2 rfl; have q5 := box_read (i := 5) hx2 rfl; have q6 := box_read (i := 6) hx2 rfl; have q7 := box_read (i := 7) hx2 rfl)
    | (go_at_call 49; refine (moveOf_any ⟨4, f, h, r, c, p, b, l⟩ _ _ hv1.out).mono ?_; rintro e w2 ⟨rfl, hb2⟩; have T2 := hide (show Text w2 _ _ _ from ownsRow_below T1.out hb2); have s2 := hb2.size; rw [World.size_alloc] at s2; have bl2 := bl1.trans (hb2.mono (by simp; omega)))
    | (go_at_call 48; refine (appendMove_any (w.heap.size + 1) _ _ ⟨f, p, c, b⟩ _ T2.out (by omega) (by rw [headB_size]; omega) f6 f5 f7).mono ?_; rintro e w3 ⟨v3, rfl, t3, hb3⟩; have T3 := hide t3; clear t3; have bl3 := bl2.trans hb3; have cv := run_string_of T3.out (by rw [ByteArray.size_append, headB_size]; omega)))
  go_ret2
  refine ⟨?_, hB0.trans (bl3.mono (Nat.le_succ _))⟩
  rw [HE.out]
  rfl
end Go.Proofs.Ytlkhmldceekdaaa

/- wire.Encode: Propose; the whole; moot.Encode. -/
namespace Go.Proofs.Ytlkhmldceekdaaa
open Go.RowKit Go.Shelf
open Go.Lib (strCells strCells_length wpList_append_own_string)
set_option linter.unusedVariables false

set_option maxRecDepth 100000 in
set_option maxHeartbeats 4000000 in
theorem wEnc1 (m : Mg) (v : Value) (w : World) (hv : MovesAt w v m.moves) (hm : mayB m = true) (hk : m.kind = 1) :
    Calls Try.prog 29 #[mgV m v] w fun e w' => e = .returned (.tuple #[.string (encB m), .int .i64 0]) ∧ Below w.heap.size w w' := by
  obtain ⟨i0, hi, hz0, hz1, hz2⟩ := info_parts Try.info5
  have HE := hide (enc1_eq hk)
  obtain ⟨f1, f2, f3, f4, f5, f6, f7, f8, f9⟩ := may_facts hm
  have hv1 := hide hv.slice
  have HV := hide hv
  have HM := hide hm
  have F9 := hide f9
  obtain ⟨ao, cap, hvs, hcell⟩ := hv.1
  have HC := hide hcell
  clear hv hm f9 hcell
  obtain ⟨k, f, h, r, c, p, b, l⟩ := m
  dsimp only at f1 f2 f3 f4 f5 f6 f7 f8 HV hk F9 HC hvs hv1
  have hc : c.size ≤ maxLen := by unfold maxLen; omega
  subst hvs hk
  have hB0 : Below w.heap.size w (w.alloc (.cells #[.int .i64 1, .int .i64 f, .int .i64 h, .int .i64 r, .string c, .int .i64 p, .int .i64 b, .slice ao l.length cap] 39)) := (Below.refl _ w).alloc (Nat.le_refl _) _
  have HX := hide (World.alloc_heap_new w (.cells #[.int .i64 1, .int .i64 f, .int .i64 h, .int .i64 r, .string c, .int .i64 p, .int .i64 b, .slice ao l.length cap] 39 (0, 0)))
  have oL : strCells (oneB (l.length : Int)) = [.int .u8 (l.length : Int)] := strCells_one (by omega) (by omega)
  go_enter Try.func29, Try.ntmps29
  go_wp2_with (first
    | (go_at_call 47; refine (mayBe_is true ⟨1, f, h, r, c, p, b, l⟩ _ _ (HV.out.below ((Below.refl _ w).alloc (Nat.le_refl _) _)) hc HM.out).mono ?_; rintro e w1 ⟨rfl, hb1⟩; obtain ⟨z0, z1, z2, z3, z4, z5, z6, z7⟩ := box8 hb1; have hs1 : w.heap.size + 1 ≤ w1.heap.size := (by have := hb1.size; rw [World.size_alloc] at this; exact this); have hx1 := (hb1.block w.heap.size (by simp)).trans HX.out; have T1 := hide (text_head (w := w1) (base := w.heap.size + 1) ⟨1, f, h, r, c, p, b, l⟩ hs1 f1 f2 f3 f4); have bl1 : Below (w.heap.size + 1) (w.alloc (.cells #[.int .i64 1, .int .i64 f, .int .i64 h, .int .i64 r, .string c, .int .i64 p, .int .i64 b, .slice ao l.length cap] 39)) (w1.alloc (.cells #[.int .u8 1, .int .u8 f, .int .u8 h, .int .u8 r] 5)) := (hb1.mono (by simp)).alloc hs1 _; have hx2 := box_alloc (o' := .cells #[.int .u8 1, .int .u8 f, .int .u8 h, .int .u8 r] 5) hx1; have q0 := box_read (i := 0) hx2 rfl; have q1 := box_read (i := 1) hx2 rfl; have q2 := box_read (i := 2) hx2 rfl; have q3 := box_read (i := 3) hx2 rfl; have q4 := box_read (i := 4) hx2 rfl; have q5 := box_read (i := 5) hx2 rfl; have q6 := box_read (i := 6) hx2 rfl; have q7 := box_read (i := 7) hx2 rfl)
    | (at_builtin; refine wpList_append_own_string _ rfl (.tmp 27) (.tmp 29) 80 9 rfl (w.heap.size + 1) 5 i0 Try.underlying80 Try.underlying9 hi hz0 hz1 hz2 _ _ _ rfl T1.out c rfl (by unfold maxLen; rw [headB_size]; omega) (by rw [headB_size]; omega) (by simp; omega) ?_; intro v2 w2 hown2 hgrow2 _; have hx3 := box_kept hx2 T1.out (by decide) hgrow2; have y3 := box_read (i := 6) hx3 rfl; have y7 := box_read (i := 7) hx3 rfl; have bl2 := bl1.trans (app_str T1.out (by simp; omega) hgrow2); have T2 := hide (text_app hown2))
    | (at_builtin; refine wpList_append_own _ rfl (.tmp 31) (.tmp 36) 80 rfl (w.heap.size + 1) 5 i0 (.int .u8 0) 1 1 Try.underlying80 hi hz0 hz1 hz2 rfl (by decide) v2 _ _ rfl (World.ownsRow.alloc T2.out _) ⟨_, 0, none⟩ 1 1 [.int .u8 (l.length : Int)] rfl rfl (cell_one_at _ _ _ _ (by simp)) (by simp [Value.oneCell']) (by unfold maxLen; rw [ByteArray.size_append, headB_size]; omega) (by rw [ByteArray.size_append, headB_size]; omega) (by have := bl2.size; simp at this ⊢; omega) ?_; intro v3 w3 hown3 hgrow3 _; have bl3 := bl2.trans (app_one T2.out (by have := bl2.size; simp at this ⊢; omega) hgrow3); have hx4 := box_kept (box_alloc hx3) (World.ownsRow.alloc T2.out _) (by decide) hgrow3; have r7 := box_read (i := 7) hx4 rfl; have T3 := hide (text_push hown3 (by omega) (by omega))))
  have bk3 : Below (w.heap.size + 1) (w.alloc (.cells #[.int .i64 1, .int .i64 f, .int .i64 h, .int .i64 r, .string c, .int .i64 p, .int .i64 b, .slice ao l.length cap] 39)) w3 := bl3
  have hBw3 : Below w.heap.size w w3 := hB0.trans (bk3.mono (Nat.le_succ _))
  have hs3 : w.heap.size + 1 ≤ w3.heap.size := box_size bk3
  clear z0 z1 z2 z3 z4 z5 z6 z7 q0 q1 q2 q3 q4 q5 q6 q7 y3 y7 r7 hx1 hx2 hx3 hx4 hb1 hgrow2 hgrow3 hown2 hown3 bl1 bl2 bl3 T1 T2 HX hB0 bk3 oL HV HM
  go_loopw [4, 41] (fun st i wr => ∃ (j : Nat) (s : ByteArray), j ≤ l.length ∧ i = .int .i64 (j : Int) ∧ Text wr (w.heap.size + 1) st s ∧ Hid (movesB s (l.drop j) = encB ⟨1, f, h, r, c, p, b, l⟩) ∧ s.size ≤ 100 + 40 * j ∧ 0 < s.size ∧ w.heap.size + 1 ≤ wr.heap.size ∧ Below w.heap.size w wr) (fun _ i _ => l.length - (intOf i).toNat)
  case atStart => exact ⟨0, _, by omega, rfl, T3.out, by rw [HE.out]; rfl, by simp only [ByteArray.size_append, headB_size, oneB_size]; omega, by simp only [ByteArray.size_append, headB_size, oneB_size]; omega, hs3, hBw3⟩
  case round =>
    obtain ⟨j, s, hj, rfl, ht, henc, hss, hs0, hsw, hBw⟩ := hrel
    by_cases hlt : j < l.length
    · obtain ⟨b0, off, rfl, hlt0, hcell⟩ := HC.out (by omega)
      obtain ⟨c0, c1, c2, c3⟩ := hcell j hlt
      clear hcell
      rw [← hBw.cell (p := ⟨b0, off + j * 4, none⟩) hlt0] at c0
      rw [← hBw.cell (p := ⟨b0, off + j * 4 + 1, none⟩) hlt0] at c1
      rw [← hBw.cell (p := ⟨b0, off + j * 4 + 2, none⟩) hlt0] at c2
      rw [← hBw.cell (p := ⟨b0, off + j * 4 + 3, none⟩) hlt0] at c3
      obtain ⟨g1, g2, g3, g4⟩ := F9.out _ (List.getElem_mem hlt)
      have hst : Hid (movesB s (l.drop j) = movesB (s ++ oneB l[j].node ++ mvB l[j].prep l[j].chain l[j].by') (l.drop (j + 1))) := by
        show _ = _
        rw [List.drop_eq_getElem_cons hlt]; rfl
      obtain ⟨x, hx⟩ : ∃ x, l[j] = x := ⟨_, rfl⟩
      rw [hx] at c0 c1 c2 c3 g1 g2 g3 g4 hst
      clear hx
      obtain ⟨n, q, d, y⟩ := x
      dsimp only at c0 c1 c2 c3 g1 g2 g3 g4 hst
      have i0' : (0 : Int) ≤ (j : Int) := by omega
      have i1 : (j : Int) < (l.length : Int) := by omega
      have om := mvB_size (p := q) (b := y) g4
      have HT := hide ht
      clear ht
      have HX := hide (World.alloc_heap_new wr (.cells #[.int .i64 n, .int .i64 q, .string d, .int .i64 y] 43 (0, 0)))
      go_wp2_with (first
        | (at_builtin; refine wpList_append_own _ rfl (.tmp 45) (.tmp 49) 80 rfl (w.heap.size + 1) 5 i0 (.int .u8 0) 1 1 Try.underlying80 hi hz0 hz1 hz2 rfl (by decide) _ _ _ rfl (World.ownsRow.alloc (World.ownsRow.alloc HT.out _) _) ⟨_, 0, none⟩ 1 1 [.int .u8 n] rfl rfl (cell_one_at _ _ _ _ (by simp)) (by simp [Value.oneCell']) (by unfold maxLen; omega) (by omega) (by simp; omega) ?_; intro v5 w5 hown5 hgrow5 _; have hx5 := box_kept (box_alloc HX.out) (World.ownsRow.alloc (World.ownsRow.alloc HT.out _) _) (by decide) hgrow5; have q0 := box_read (i := 0) hx5 rfl; have q1 := box_read (i := 1) hx5 rfl; have q2 := box_read (i := 2) hx5 rfl; have q3 := box_read (i := 3) hx5 rfl; have bl5 := box_grown HT.out hsw hgrow5; have s5 := bl5.size; have T5 := hide (text_push hown5 (by omega) (by omega)))
        | (go_at_call 48; refine (appendMove_any (w.heap.size + 1) _ _ ⟨n, q, d, y⟩ _ T5.out (by omega) (by rw [ByteArray.size_append, oneB_size]; omega) g2 g3 g4).mono ?_; rintro e w6 ⟨v6, rfl, t6, hb6⟩; have T6 := hide t6; clear t6; have bl6 := bl5.trans hb6; have s6 := bl6.size))
      go_roundw
      case rel => exact ⟨j + 1, _, by omega, by go_num, T6.out, by rw [← hst.out, henc.out]; rfl, by simp only [ByteArray.size_append, oneB_size]; omega, by simp only [ByteArray.size_append, oneB_size]; omega, by omega, hBw.trans (bl6.mono (Nat.le_succ _))⟩
      case measure => simp [intOf]; omega
    · have cv := run_string_of ht hs0
      go_wp2
      go_ret2
      refine ⟨?_, hBw⟩
      rw [← henc.out, List.drop_eq_nil_of_le (by omega)]
      rfl

theorem wEnc_ok (m : Mg) (v : Value) (w : World) (hv : MovesAt w v m.moves) (hm : mayB m = true) :
    Calls Try.prog 29 #[mgV m v] w fun e w' => e = .returned (.tuple #[.string (encB m), .int .i64 0]) ∧ Below w.heap.size w w' := by
  have hk := (may_facts hm).kind
  by_cases h1 : m.kind = 1
  · exact wEnc1 m v w hv hm h1
  by_cases h2 : m.kind = 2
  · exact wEnc2 m v w hv hm h2
  by_cases h3 : m.kind = 3
  · exact wEnc3 m v w hv hm h3
  by_cases h4 : m.kind = 4
  · exact wEnc4 m v w hv hm h4
  by_cases h5 : m.kind = 5
  · exact wEnc5 m v w hv hm h5
  exact wEnc6 m v w hv hm (by omega)

/-- what Encode answers -/
def encRes (m : Mg) : Value := if mayB m = true then .tuple #[.string (encB m), .int .i64 0] else .tuple #[.string ByteArray.empty, .int .i64 2]
theorem wEnc_any (m : Mg) (v : Value) (w : World) (hv : MovesAt w v m.moves) (hc : m.chain.size ≤ maxLen) :
    Calls Try.prog 29 #[mgV m v] w fun e w' => e = .returned (encRes m) ∧ Below w.heap.size w w' := by
  unfold encRes
  cases hm : mayB m with
  | true => exact wEnc_ok m v w hv hm
  | false => exact wEnc_no m v w hv hc hm
theorem refEnc_any (m : Mg) (v : Value) (w : World) (hv : MovesAt w v m.moves) (hc : m.chain.size ≤ maxLen) :
    Calls Try.prog 16 #[mgV m v] w fun e w' => e = .returned (encRes m) ∧ Below w.heap.size w w' := by
  unfold encRes
  cases hm : mayB m with
  | true => exact refEnc_ok m v w hv hm
  | false => exact refEnc_no m v w hv hc hm
/-- what Encode answers, in two letters -/
theorem encRes_two (m : Mg) : ∃ s e, encRes m = .tuple #[.string s, .int .i64 e] := by
  unfold encRes
  split
  · exact ⟨_, _, rfl⟩
  · exact ⟨_, _, rfl⟩
set_option maxRecDepth 100000 in
set_option maxHeartbeats 1000000 in
theorem encode_is (s : ByteArray) (t : Int) (m : Mg) (v : Value) (w : World) (hv : MovesAt w v m.moves) (hc : m.chain.size ≤ maxLen) (hs : encRes m = .tuple #[.string s, .int .i64 t]) :
    Calls Try.prog 15 #[mgV m v] w fun e w' => e = .returned (.tuple #[.string s, .int .i64 t]) ∧ Below w.heap.size w w' := by
  have hcall := fun (w : World) hv => wEnc_any m v w hv hc
  rw [hs] at hcall
  have HCALL := hide hcall
  have HV := hide hv
  obtain ⟨ao, n, cap, hvs⟩ := hv.slice
  clear hv hcall hs
  obtain ⟨k, f, h, r, c, p, b, l⟩ := m
  dsimp only at HV
  subst hvs
  go_enter Try.func15, Try.ntmps15
  go_wp2_with (go_at_call 29; refine (HCALL.out _ (HV.out.below ((Below.refl _ w).alloc (Nat.le_refl _) _))).mono ?_; rintro e w1 ⟨rfl, hb1⟩)
  go_ret2
  exact ⟨rfl, ((Below.refl _ w).alloc (Nat.le_refl _) _).trans (hb1.mono (by simp))⟩
end Go.Proofs.Ytlkhmldceekdaaa

/- wire's reader: number, text. -/
namespace Go.Proofs.Ytlkhmldceekdaaa
open Go.RowKit Go.Shelf
set_option linter.unusedVariables false

/-- one byte from the front; so many -/
def numB (s : ByteArray) (sh : Bool) : Int × ByteArray × Bool := if h : 0 < s.size then ((s[0].toNat : Int), s.extract 1 s.size, sh) else (0, s, true)
def textB (n : Nat) (s : ByteArray) (sh : Bool) : ByteArray × ByteArray × Bool := if s.size < n then (ByteArray.empty, ByteArray.empty, true) else (s.extract 0 n, s.extract n s.size, sh)
/-- the reader, in block R -/
def RdAt (w : World) (R : Nat) (s : ByteArray) (sh : Bool) : Prop := w.heap[R]? = some (.cells #[.string s, .bool sh] 102 (0, 0)) ∧ s.size ≤ maxLen
theorem RdAt.cells {w : World} {R : Nat} {s : ByteArray} {sh : Bool} (h : RdAt w R s sh) : w.cell? ⟨R, 0, none⟩ = some (.string s) ∧ w.cell? ⟨R, 1, none⟩ = some (.bool sh) := ⟨box_read h.1 rfl, box_read h.1 rfl⟩
theorem RdAt.free {w : World} {R j : Nat} {s : ByteArray} {sh : Bool} (h : RdAt w R s sh) : w.frozen? ⟨R, j, none⟩ = false := by simp [World.frozen?, h.1]
theorem heap_set2_0 {w : World} {b : Nat} {x y u : Value} {t : TypeId} (h : w.heap[b]? = some (.cells #[x, y] t (0, 0))) : (w.setCell ⟨b, 0, none⟩ u).heap[b]? = some (.cells #[u, y] t (0, 0)) := by
  obtain ⟨hlt, hk⟩ := Array.getElem?_eq_some_iff.1 h
  show (w.heap.modify b _)[b]? = _
  rw [Array.getElem?_eq_getElem (by rw [Array.size_modify]; exact hlt), Array.getElem_modify_self, hk]
  rfl
theorem heap_set2_1 {w : World} {b : Nat} {x y u : Value} {t : TypeId} (h : w.heap[b]? = some (.cells #[x, y] t (0, 0))) : (w.setCell ⟨b, 1, none⟩ u).heap[b]? = some (.cells #[x, u] t (0, 0)) := by
  obtain ⟨hlt, hk⟩ := Array.getElem?_eq_some_iff.1 h
  show (w.heap.modify b _)[b]? = _
  rw [Array.getElem?_eq_getElem (by rw [Array.size_modify]; exact hlt), Array.getElem_modify_self, hk]
  rfl

set_option maxRecDepth 100000 in
set_option maxHeartbeats 1000000 in
theorem number_any (R : Nat) (s : ByteArray) (sh : Bool) (w : World) (hr : RdAt w R s sh) :
    Calls Try.prog 64 #[.pointer (some ⟨R, 0, none⟩)] w fun e w' => e = .returned (.int .i64 (numB s sh).1) ∧ RdAt w' R (numB s sh).2.1 (numB s sh).2.2 ∧ w.grownBy w' (some R) := by
  obtain ⟨c0, c1⟩ := hr.cells
  have f0 := hr.free (j := 0)
  have f1 := hr.free (j := 1)
  have HR := hide hr
  have hsz := hr.2
  unfold maxLen at hsz
  clear hr
  by_cases h0 : 0 < s.size
  · have HN : Hid (numB s sh = ((s[0].toNat : Int), s.extract 1 s.size, sh)) := dif_pos h0
    have hne : ¬ s.toList = [] := fun e => by have := bytes_nil.1 e; omega
    have hneB : (s.toList == []) = false := by simpa using hne
    have i0 : (0 : Int) < (s.size : Int) := by omega
    have i1 : (1 : Int) ≤ (s.size : Int) := by omega
    have i2 : 1 ≤ s.size := h0
    go_enter Try.func64, Try.ntmps64
    go_wp2
    go_ret
    rw [HN.out]
    have hb := s[0].toNat_lt
    refine ⟨ret_int (by unfold wrap64; omega), ⟨heap_set2_0 HR.out.1, ?_⟩, grownBy_setCellAt _ _ _ _⟩
    show (s.extract 1 s.size).size ≤ maxLen
    rw [ByteArray.size_extract]
    unfold maxLen
    omega
  · have HN : Hid (numB s sh = (0, s, true)) := dif_neg h0
    have hne : s.toList = [] := bytes_nil.2 (by omega)
    have hneB : (s.toList == []) = true := by rw [hne]; rfl
    have HNE := hide hne
    clear hne
    go_enter Try.func64, Try.ntmps64
    go_wp2
    go_ret
    rw [HN.out]
    exact ⟨rfl, ⟨heap_set2_1 HR.out.1, HR.out.2⟩, grownBy_setCellAt _ _ _ _⟩
end Go.Proofs.Ytlkhmldceekdaaa

/- strings.Clone, off the shelf. -/
namespace Go.Proofs
shelf_lay LaysM.n316 Nm 316 at Try as Try.laysM316
open Go.RowKit in
theorem Try.stringslite_Clone (s : ByteArray) (w : World) (hlim : s.size ≤ 281474976710656) :
    Calls Try.prog 74 #[.string s] w fun e w' => e = .returned (.string s) ∧ Below w.heap.size w w' := Any.stringslite_Clone Try.laysM316 s w hlim
end Go.Proofs
namespace Go.Proofs.Ytlkhmldceekdaaa
open Go.RowKit Go.Shelf
set_option linter.unusedVariables false
set_option maxHeartbeats 1000000 in
theorem clone_any (s : ByteArray) (w : World) (hs : s.size ≤ 281474976710656) :
    Calls Try.prog 73 #[.string s] w fun e w' => e = .returned (.string s) ∧ Below w.heap.size w w' := by
  go_enter Try.func73, Try.ntmps73
  go_wp2_with (go_at_call 74; refine (Try.stringslite_Clone s _ hs).mono ?_; rintro e w1 ⟨rfl, hb1⟩)
  go_ret
  exact ⟨rfl, hb1⟩
end Go.Proofs.Ytlkhmldceekdaaa
