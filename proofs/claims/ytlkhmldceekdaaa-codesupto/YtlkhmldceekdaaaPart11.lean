import Derived.Test.YtlkhmldceekdaaaPart10
import Derived.Laws.CopyOwn
/- The law's sameMsg of two messages that are the same. -/
namespace Go.Proofs.Ytlkhmldceekdaaa
open Go.RowKit Go.Shelf
set_option linter.unusedVariables false

/-- what MovesAt says, laid open at a place -/
theorem MovesAt.open' {w : World} {v : Value} {l : List Mv} (h : MovesAt w v l) : ∃ ao cap, v = .slice ao l.length cap ∧ (0 < l.length → ∃ b off, ao = some ⟨b, off, none⟩ ∧ b < w.heap.size ∧ ∀ i (h : i < l.length),
    w.cell? ⟨b, off + i * 4, none⟩ = some (.int .i64 l[i].node) ∧ w.cell? ⟨b, off + i * 4 + 1, none⟩ = some (.int .i64 l[i].prep) ∧ w.cell? ⟨b, off + i * 4 + 2, none⟩ = some (.string l[i].chain) ∧ w.cell? ⟨b, off + i * 4 + 3, none⟩ = some (.int .i64 l[i].by')) := h.1
set_option maxRecDepth 100000 in
set_option maxHeartbeats 4000000 in
theorem sameMsg_same (m : Mg) (va vb : Value) (w : World) (ha : MovesAt w va m.moves) (hb : MovesAt w vb m.moves) :
    Calls Try.prog 20 #[mgV m va, mgV m vb] w fun e w' => e = .returned (.bool true) ∧ Below w.heap.size w w' := by
  obtain ⟨k, f, h, r, c, p, b, l⟩ := m
  dsimp only at ha hb
  have hll := ha.2.2
  have hW : Below w.heap.size w ((w.alloc (.cells #[.int .i64 k, .int .i64 f, .int .i64 h, .int .i64 r, .string c, .int .i64 p, .int .i64 b, va] 39)).alloc (.cells #[.int .i64 k, .int .i64 f, .int .i64 h, .int .i64 r, .string c, .int .i64 p, .int .i64 b, vb] 39)) := ((Below.refl _ w).alloc (Nat.le_refl _) _).alloc (by simp) _
  have HX := box_alloc (o' := .cells #[.int .i64 k, .int .i64 f, .int .i64 h, .int .i64 r, .string c, .int .i64 p, .int .i64 b, vb] 39) (World.alloc_heap_new w (.cells #[.int .i64 k, .int .i64 f, .int .i64 h, .int .i64 r, .string c, .int .i64 p, .int .i64 b, va] 39 (0, 0)))
  have HY : ((w.alloc (.cells #[.int .i64 k, .int .i64 f, .int .i64 h, .int .i64 r, .string c, .int .i64 p, .int .i64 b, va] 39)).alloc (.cells #[.int .i64 k, .int .i64 f, .int .i64 h, .int .i64 r, .string c, .int .i64 p, .int .i64 b, vb] 39)).heap[w.heap.size + 1]? = some (.cells #[.int .i64 k, .int .i64 f, .int .i64 h, .int .i64 r, .string c, .int .i64 p, .int .i64 b, vb] 39 (0, 0)) := by
    have := World.alloc_heap_new (w.alloc (.cells #[.int .i64 k, .int .i64 f, .int .i64 h, .int .i64 r, .string c, .int .i64 p, .int .i64 b, va] 39)) (.cells #[.int .i64 k, .int .i64 f, .int .i64 h, .int .i64 r, .string c, .int .i64 p, .int .i64 b, vb] 39 (0, 0))
    rw [World.size_alloc] at this
    exact this
  obtain ⟨ao, ca, rfl, hca⟩ := (ha.below hW).open'
  obtain ⟨bo, cb, rfl, hcb⟩ := (hb.below hW).open'
  have x7 := box_read (i := 7) HX rfl
  have y7 := box_read (i := 7) HY rfl
  have HCA := hide hca
  have HCB := hide hcb
  have HHX := hide HX
  have HHY := hide HY
  have HW := hide hW
  clear hca hcb ha hb HX HY hW
  go_enter Try.func20, Try.ntmps20
  go_wp2
  obtain ⟨W, hWW⟩ : ∃ W, (w.alloc (.cells #[.int .i64 k, .int .i64 f, .int .i64 h, .int .i64 r, .string c, .int .i64 p, .int .i64 b, .slice ao l.length ca] 39)).alloc (.cells #[.int .i64 k, .int .i64 f, .int .i64 h, .int .i64 r, .string c, .int .i64 p, .int .i64 b, .slice bo l.length cb] 39) = W := ⟨_, rfl⟩
  rw [hWW] at x7 y7 HCA HCB HW ⊢
  clear HHX HHY hWW
  go_loopw [5] (fun i wr => ∃ (j n : Nat), j ≤ l.length ∧ i = .int .i64 (j : Int) ∧ wr = W.drewN n) (fun i _ => l.length - (intOf i).toNat)
  case atStart => exact ⟨0, 0, by omega, rfl, rfl⟩
  case round =>
    obtain ⟨j, n, hj, rfl, rfl⟩ := hrel
    by_cases hlt : j < l.length
    · obtain ⟨g, o, rfl, _, hg⟩ := HCA.out (by omega)
      obtain ⟨g2, o2, rfl, _, hg2⟩ := HCB.out (by omega)
      obtain ⟨a0, a1, a2, a3⟩ := hg j hlt
      obtain ⟨d0, d1, d2, d3⟩ := hg2 j hlt
      obtain ⟨x, hx⟩ : ∃ x, l[j] = x := ⟨_, rfl⟩
      rw [hx] at a0 a1 a2 a3 d0 d1 d2 d3
      obtain ⟨xn, xp, xc, xb⟩ := x
      dsimp only at a0 a1 a2 a3 d0 d1 d2 d3
      clear hx hg hg2
      have i0 : (0 : Int) ≤ (j : Int) := by omega
      have i1 : (j : Int) < (l.length : Int) := by omega
      go_wp2
      go_quiet (fail)
      go_wp2
      go_roundw
      case rel => exact ⟨j + 1, n + nq, by omega, by go_num, rfl⟩
      case measure => simp [intOf]; omega
    · go_wp2
      go_ret
      exact ⟨rfl, HW.out.trans ((below_drewN' _ _).mono HW.out.size)⟩
end Go.Proofs.Ytlkhmldceekdaaa

/- copy of Moves into a row that was just made; the row with its room. -/
namespace Go.Proofs.Ytlkhmldceekdaaa
open Go.RowKit Go.Shelf
set_option linter.unusedVariables false

theorem make_movesL (n : Nat) (hn : n ≤ 3000000) (w : World) : (Instr.makeSlice 37 (.int .i64 (n : Int)) (.int .i64 (n : Int))).run Try.prog w = .ok (.slice (some ⟨w.heap.size, 0, none⟩) n n) (w.alloc (.cells (flatV (List.replicate n noMv)).toArray 43)) := by
  obtain ⟨i0, hi, hz0, hz1, hz2⟩ := info_parts Try.infoMv
  have h := run_make (P := Try.prog) w 37 43 i0 (.agg zeroMv) Try.underlying37 hi hz0 .i64 .i64 (n : Int) (n : Int) (by omega) (by omega) (by rw [hz2]; omega) (by omega)
  rw [h, hz1, Int.toNat_natCast]
  have e : (Value.agg zeroMv).cells = zeroMv := rfl
  rw [e, made_moves]
theorem flat_one : ∀ (l : List Mv), ∀ u ∈ flatV l, u.oneCell' = true
  | [], u, hu => by simp [flatV] at hu
  | x :: l, u, hu => by
    rw [flatV, List.mem_append] at hu
    rcases hu with hu | hu
    · simp [mvL] at hu
      rcases hu with rfl | rfl | rfl | rfl <;> rfl
    · exact flat_one l u hu
theorem flat_drop (n : Nat) (l : List Mv) : (flatV l).drop (n * 4) = flatV (l.drop n) := by
  by_cases h : n ≤ l.length
  · have e : l = l.take n ++ l.drop n := (List.take_append_drop n l).symm
    have hl : (flatV (l.take n)).length = n * 4 := by rw [flatV_length, List.length_take, Nat.min_eq_left h]
    conv => lhs; rw [e, flatV_append]
    rw [List.drop_append_of_le_length (by omega), ← hl, List.drop_length, List.nil_append]
  · rw [List.drop_eq_nil_of_le (by rw [flatV_length]; omega), List.drop_eq_nil_of_le (by omega)]
    rfl
/-- copy: as many Moves as the source has go over -/
theorem run_copy_M (w : World) (ty : TypeId) (g n m : Nat) (ao : Option Addr) (sCap : Nat) (l : List Mv) (hl : l.length = n) (hg : w.heap[g]? = some (.cells (flatV (List.replicate (n + m) noMv)).toArray 43 (0, 0)))
    (hnone : ao = none → n = 0) (hsrc : ∀ a, ao = some a → ∀ j u, (flatV l)[j]? = some u → w.cell? (a.add j) = some u) :
    (Builtin.copy_ #[37, 37] ty #[.slice (some ⟨g, 0, none⟩) (n + m) (n + m), .slice ao n sCap]).run Try.prog w = .ok (goInt n) (w.setRow g (flatV (l ++ List.replicate m noMv)).toArray) := by
  obtain ⟨i0, hi, hz0, hz1, hz2⟩ := info_parts Try.infoMv
  have hlen : (flatV l).length = n * 4 := by rw [flatV_length, hl]
  have hst := run_storeCells_at Try.prog g 0 43 (flatV l) 0 _ w hg (by simp [flatV_length, hl]; omega) (flat_one l)
  have hrow : ((flatV (List.replicate (n + m) noMv)).toArray.toList.take (0 + 0) ++ flatV l ++ (flatV (List.replicate (n + m) noMv)).toArray.toList.drop (0 + 0 + (flatV l).length)) = flatV (l ++ List.replicate m noMv) := by
    rw [hlen]
    simp only [Nat.zero_add, List.take_zero, List.nil_append]
    rw [flat_drop, List.drop_replicate, flatV_append, show n + m - n = m by omega]
  rw [hrow] at hst
  have hmin : min n (n + m) = n := by omega
  cases ao with
  | none =>
    obtain rfl := hnone rfl
    obtain rfl : l = [] := List.length_eq_zero_iff.1 hl
    rw [List.nil_append] at hst ⊢
    have hself := setRow_self w g _ 43 (0, 0) hg
    rw [Nat.zero_add] at hself
    rw [hself]
    simp [Builtin.copy_, run_underlying Try.underlying37, Builtin.lenOf, Builtin.firstCells, sizeOf, typeInfo, hi, storeCells]
  | some a =>
    have hld := run_loadCells_list (P := Try.prog) w a (flatV l) (hsrc a rfl)
    rw [hlen] at hld
    simp [Builtin.copy_, run_underlying Try.underlying37, Builtin.lenOf, Builtin.firstCells, sizeOf, typeInfo, hi, hz1, hmin, hld, hst]
theorem wpList_copy_M {w : World} {ops : Array Oper} {rest : List Oper} {o : Oper} {a : Act} {Q : Exit → Act → World → Prop} (hgd : o.guard = none) (d s : Operand)
    (ho : o.op = .call { callee := .builtin .copy, args := #[d, s], argTypes := #[37, 37] })
    (g n m : Nat) (ao : Option Addr) (sCap : Nat) (l : List Mv) (hd : a.eval d = .slice (some ⟨g, 0, none⟩) (n + m) (n + m)) (hs : a.eval s = .slice ao n sCap) (hl : l.length = n) (hg : w.heap[g]? = some (.cells (flatV (List.replicate (n + m) noMv)).toArray 43 (0, 0)))
    (hnone : ao = none → n = 0) (hsrc : ∀ a, ao = some a → ∀ j u, (flatV l)[j]? = some u → w.cell? (a.add j) = some u)
    (h : ∀ w', Hid (w'.heap[g]? = some (.cells (flatV (l ++ List.replicate m noMv)).toArray 43 (0, 0))) → w.grownBy w' (some g) → wpList Try.prog ops Q rest (a.put o.dst (goInt n)) w') : wpList Try.prog ops Q (o :: rest) a w := by
  refine wpList_plain hgd fun K hK => ?_
  have hrun := run_copy_M w o.type g n m ao sCap l hl hg hnone hsrc
  unfold Oper.wp
  simp [execOp, ho, resolve, invoke, builtin, hd, hs, hrun, Result.andThen]
  refine hK _ _ (h _ (setRow_heap w g _ _ _ _ hg) ⟨rfl, rfl, rfl, by simp [World.setRow], fun k hk hne => setRow_other w g k _ (fun e => hne (by rw [e]))⟩)
/-- a source's cells, from MovesAt -/
theorem moves_src {w : World} {b off : Nat} {l : List Mv} (h : ∀ i (h : i < l.length), w.cell? ⟨b, off + i * 4, none⟩ = some (.int .i64 l[i].node) ∧ w.cell? ⟨b, off + i * 4 + 1, none⟩ = some (.int .i64 l[i].prep) ∧ w.cell? ⟨b, off + i * 4 + 2, none⟩ = some (.string l[i].chain) ∧ w.cell? ⟨b, off + i * 4 + 3, none⟩ = some (.int .i64 l[i].by')) :
    ∀ j u, (flatV l)[j]? = some u → w.cell? ((⟨b, off, none⟩ : Addr).add j) = some u := by
  intro j u hu
  have hj : j < l.length * 4 := by
    have := (List.getElem?_eq_some_iff.1 hu).1
    rwa [flatV_length] at this
  have hi : j / 4 < l.length := by omega
  have q := flatV_get (l.take (j / 4)) (l.drop (j / 4 + 1)) l[j / 4] (j / 4) (by rw [List.length_take]; omega)
  rw [← List.drop_eq_getElem_cons hi, List.take_append_drop] at q
  have hc := h (j / 4) hi
  have e : (⟨b, off, none⟩ : Addr).add j = ⟨b, off + j, none⟩ := by unfold Addr.add; split <;> simp_all
  rw [e]
  have h4 : j % 4 = 0 ∨ j % 4 = 1 ∨ j % 4 = 2 ∨ j % 4 = 3 := by omega
  rcases h4 with h4 | h4 | h4 | h4
  · rw [show off + j = off + j / 4 * 4 by omega, hc.1, ← hu, ← q.1]; exact congrArg (fun z => (flatV l)[z]?) (by omega)
  · rw [show off + j = off + j / 4 * 4 + 1 by omega, hc.2.1, ← hu, ← q.2.1]; exact congrArg (fun z => (flatV l)[z]?) (by omega)
  · rw [show off + j = off + j / 4 * 4 + 2 by omega, hc.2.2.1, ← hu, ← q.2.2.1]; exact congrArg (fun z => (flatV l)[z]?) (by omega)
  · rw [show off + j = off + j / 4 * 4 + 3 by omega, hc.2.2.2, ← hu, ← q.2.2.2]; exact congrArg (fun z => (flatV l)[z]?) (by omega)
end Go.Proofs.Ytlkhmldceekdaaa

/- The law's keepMoves, walked. -/
namespace Go.Proofs.Ytlkhmldceekdaaa
open Go.RowKit Go.Shelf
set_option linter.unusedVariables false

set_option maxRecDepth 100000 in
set_option maxHeartbeats 4000000 in
theorem keepMoves_any (K base top n : Nat) (L : List Value) (l : List Mv) (v : Value) (w : World) (hk : BookM w K base top L) (hv : FreshM w top v n l) (hn : n ≤ 2500000) (hL : L.length ≤ 100000000) (h4 : L.length % 4 = 0) (hbK : base ≤ K) (hbt : base ≤ top) :
    Calls Try.prog 17 #[.pointer (some ⟨K, 0, none⟩), v] w fun e w' => e = .returned (.tuple #[]) ∧ Below base w w' ∧ ∃ L', BookM w' K base w'.heap.size L' ∧ L'.length = L.length + 4 := by
  obtain ⟨i0, hi, hz0, hz1, hz2⟩ := info_parts Try.infoMv
  obtain ⟨i5, hi5, hy0, hy1, hy2⟩ := info_parts Try.infoMvs
  obtain ⟨ao, rfl, hao, hlen⟩ := hv.slice
  obtain ⟨c, hc⟩ : ∃ c, markB L.length = c := ⟨_, rfl⟩
  have HC := hide hc
  have HV := hide hv
  have HAO := hide hao
  have HLEN := hide hlen
  obtain ⟨ko, kc, ck0, ck, ck2, ck3⟩ := hk.open'
  have HK := hide hk
  have htop := hk.top_le
  have H4 := hide h4
  clear hv hao hk h4 hc hlen ck0 ck2 ck3
  go_enter Try.func17, Try.ntmps17
  go_wp2_with (go_at_call 21; refine (mark_is c _ L.length _ rfl (by omega) HC.out).mono ?_; rintro e w1 ⟨rfl, hb1⟩)
  clear ck
  have hx1 := World.alloc_heap_new w1 (.cells #[.int .i64 0, .int .i64 0, .string c, .int .i64 0] 43 (0, 0))
  have hbW : Below w.heap.size w (w1.alloc (.cells #[.int .i64 0, .int .i64 0, .string c, .int .i64 0] 43)) := hb1.alloc hb1.size _
  have hsX := hb1.size
  obtain ⟨X, hX⟩ : ∃ X, w1.heap.size = X := ⟨_, rfl⟩
  rw [hX] at hx1 hsX ⊢
  obtain ⟨W, hW⟩ : ∃ W, w1.alloc (.cells #[.int .i64 0, .int .i64 0, .string c, .int .i64 0] 43) = W := ⟨_, rfl⟩
  rw [hW] at hx1 hbW ⊢
  have HX1 := hide hx1
  have HBW := hide hbW
  have HXX := hide hX
  have HWW := hide hW
  have hrow0 : Hid (∀ g, ao = some ⟨g, 0, none⟩ → W.heap[g]? = some (.cells (flatV l).toArray 43 (0, 0)) ∧ g < w.heap.size ∧ top ≤ g) := by
    intro g hg
    rcases HV.out with ⟨e, _, _⟩ | ⟨g', e, ht, hh, _⟩
    · injection e with e1 _ _; rw [hg] at e1; cases e1
    · injection e with e1 _ _
      rw [hg] at e1
      cases e1
      exact ⟨(hbW.block g (lt_of_block hh)).trans hh, lt_of_block hh, ht⟩
  have hbkW : Hid (BookM W K base top L) := HK.out.below hbW
  have hbb : Hid (Below base w W) := hbW.mono (by omega)
  clear hx1 hbW hX hW hb1
  go_loopw [5] (fun i wr => ∃ (k : Nat), k ≤ n ∧ i = .int .i64 (k : Int) ∧ Hid (wr.heap[X]? = some (.cells #[.int .i64 0, .int .i64 0, .string c, .int .i64 0] 43 (0, 0))) ∧ Hid (∀ g, ao = some ⟨g, 0, none⟩ → wr.heap[g]? = some (.cells (flatV (List.replicate k (mkMv c) ++ l.drop k)).toArray 43 (0, 0)) ∧ g < w.heap.size ∧ top ≤ g) ∧ Hid (BookM wr K base top L) ∧ Hid (Below base w wr)) (fun i _ => n - (intOf i).toNat)
  case atStart => exact ⟨0, by omega, rfl, HX1, hrow0, hbkW, hbb⟩
  case round =>
    obtain ⟨k, hkn, rfl, hx, hrow, hbk, hB⟩ := hrel
    have x0 := box_read (i := 0) hx.out rfl
    have x1 := box_read (i := 1) hx.out rfl
    have x2 := box_read (i := 2) hx.out rfl
    have x3 := box_read (i := 3) hx.out rfl
    by_cases hlt : k < n
    · obtain ⟨g, e1⟩ : ∃ g, ao = some ⟨g, 0, none⟩ := by
        rcases HV.out with ⟨_, e2, _⟩ | ⟨g, e, _⟩
        · omega
        · injection e with e1 _ _; exact ⟨g, e1⟩
      subst e1
      obtain ⟨hg0, hgw, hgt⟩ := hrow.out g rfl
      have hkl : k < l.length := by rw [HLEN.out]; exact hlt
      obtain ⟨y, hy⟩ : ∃ y, l.drop k = y :: l.drop (k + 1) := ⟨_, List.drop_eq_getElem_cons hkl⟩
      rw [hy] at hg0
      have q := flatV_get (List.replicate k (mkMv c)) (l.drop (k + 1)) y k (by simp)
      have q0 := box_read (i := k * 4) hg0 (by simpa using q.1)
      have q1 := box_read (i := k * 4 + 1) hg0 (by simpa using q.2.1)
      have q2 := box_read (i := k * 4 + 2) hg0 (by simpa using q.2.2.1)
      have q3 := box_read (i := k * 4 + 3) hg0 (by simpa using q.2.2.2)
      have e0 := free_of (j := k * 4) hg0
      have e1 := free_of (j := k * 4 + 1) hg0
      have e2 := free_of (j := k * 4 + 2) hg0
      have e3 := free_of (j := k * 4 + 3) hg0
      have st := store_move (x := mkMv c) hg0 (show (List.replicate k (mkMv c)).length = k by simp)
      rw [fill_step hkl] at st
      have ST := hide st
      have hgr := grown_four wr g (k * 4) (k * 4 + 1) (k * 4 + 2) (k * 4 + 3) (.int .i64 (mkMv c).node) (.int .i64 (mkMv c).prep) (.string (mkMv c).chain) (.int .i64 (mkMv c).by')
      have HBK := hide (hbk.out.grown hg0 hgt hgr)
      have HXN := hide (heap_grown hgr hx.out (by omega))
      have HBN := hide (below_four hB.out (g := g) (by omega) (k * 4) (k * 4 + 1) (k * 4 + 2) (k * 4 + 3) (.int .i64 (mkMv c).node) (.int .i64 (mkMv c).prep) (.string (mkMv c).chain) (.int .i64 (mkMv c).by'))
      have j0 : (0 : Int) ≤ (k : Int) := by omega
      have j1 : (k : Int) < (n : Int) := by omega
      clear q hg0 st hgr hkl hy
      go_wp2
      go_roundw
      case rel => exact ⟨k + 1, by omega, by go_num, HXN, fun g' hg' => by
        injection hg' with hg'
        injection hg' with hg' _ _
        subst hg'
        exact ⟨ST.out, hgw, hgt⟩, HBK, HBN⟩
      case measure => simp [intOf]; omega
    · have hkn' : k = n := by omega
      have hown : wr.ownsRow 0 43 4 (.slice ao n n) n (flatV (List.replicate n (mkMv c))) := by
        rcases HV.out with ⟨e, e2, _⟩ | ⟨g, e, _⟩
        · rw [e, e2]; exact World.ownsRow_nil _ _ _ _
        · injection e with e1 _ _
          subst e1
          have h := (hrow.out g rfl).1
          rw [hkn', List.drop_eq_nil_iff.2 (by rw [HLEN.out]; exact Nat.le_refl _), List.append_nil] at h
          exact rowM_of h (by simp) (by omega)
      have hlo : (flatV (List.replicate n (mkMv c))).length = n * 4 := by rw [flatV_length, List.length_replicate]
      have HOWN := hide hown
      have HLO := hide hlo
      have hsz := hB.out.size
      have hwt := hbk.out.top_le
      clear hown hlo hkn'
      go_wp2_with (first
        | (at_builtin; refine wpList_append_grows _ rfl (.tmp 26) (.tmp 28) 37 rfl 43 i0 (.agg zeroMv) 4 40 Try.underlying37 hi hz0 hz1 hz2 rfl (by decide) ao n n (flatV (List.replicate n (mkMv c))) rfl (fun h => ⟨HAO.out h, HAO.out h⟩) HLO.out (holds_ofM (World.ownsRow.alloc HOWN.out _)) ⟨_, 0, none⟩ 1 1 [.int .i64 0, .int .i64 0, .string c, .int .i64 0] rfl rfl (cell_list_new _ _ _) (by simp [Value.oneCell']) (by omega) (by unfold maxLen; omega) (by omega) ?_; intro v1 w2 hown1 hgrow1; obtain ⟨g1, c1, rfl⟩ := ownsRow_succ hown1; have HO1 := hide hown1; have bl1 := below_grows hgrow1; have o1 := hide (ownsRow_below HOWN.out bl1); have hx2 := (bl1.block X (lt_of_block hx.out)).trans hx.out; have HX2 := hide hx2; have a0 := box_read (i := 0) hx2 rfl; have a1 := box_read (i := 1) hx2 rfl; have a2 := box_read (i := 2) hx2 rfl; have a3 := box_read (i := 3) hx2 rfl; clear hx2 hown1 hgrow1)
        | (at_builtin; refine wpList_append_grows _ rfl (.tmp 30) (.tmp 33) 37 rfl 43 i0 (.agg zeroMv) 4 40 Try.underlying37 hi hz0 hz1 hz2 rfl (by decide) ao n n (flatV (List.replicate n (mkMv c))) rfl (fun h => ⟨HAO.out h, HAO.out h⟩) HLO.out (holds_ofM (World.ownsRow.alloc o1.out _)) ⟨_, 0, none⟩ 2 2 [.int .i64 0, .int .i64 0, .string c, .int .i64 0, .int .i64 0, .int .i64 0, .string c, .int .i64 0] rfl rfl (cell_list_new _ _ _) (by simp [Value.oneCell']) (by omega) (by unfold maxLen; omega) (by omega) ?_; intro v2 w3 hown2 hgrow2; obtain ⟨g2, c2, rfl⟩ := ownsRow_succ hown2; have HO2 := hide hown2; have bl2 := below_grows hgrow2; have o2 := hide (ownsRow_below o1.out bl2); have hx3 := (bl2.block X (lt_of_block HX2.out)).trans HX2.out; have HX3 := hide hx3; have b0 := box_read (i := 0) hx3 rfl; have b1 := box_read (i := 1) hx3 rfl; have b2 := box_read (i := 2) hx3 rfl; have b3 := box_read (i := 3) hx3 rfl; clear hx3 hown2 hgrow2)
        | (at_builtin; refine wpList_append_grows _ rfl (.tmp 35) (.tmp 39) 37 rfl 43 i0 (.agg zeroMv) 4 40 Try.underlying37 hi hz0 hz1 hz2 rfl (by decide) ao n n (flatV (List.replicate n (mkMv c))) rfl (fun h => ⟨HAO.out h, HAO.out h⟩) HLO.out (holds_ofM (World.ownsRow.alloc o2.out _)) ⟨_, 0, none⟩ 3 3 [.int .i64 0, .int .i64 0, .string c, .int .i64 0, .int .i64 0, .int .i64 0, .string c, .int .i64 0, .int .i64 0, .int .i64 0, .string c, .int .i64 0] rfl rfl (cell_list_new _ _ _) (by simp [Value.oneCell']) (by omega) (by unfold maxLen; omega) (by omega) ?_; intro v3 w4 hown3 hgrow3; obtain ⟨g3, c3, rfl⟩ := ownsRow_succ hown3; have HO3 := hide hown3; have bl3 := below_grows hgrow3; have o3 := hide (ownsRow_below o2.out bl3); have bk3 := ((hbk.out.below bl1).below bl2).below bl3; obtain ⟨kv3, hkb3, hkr3⟩ := bk3.book; obtain ⟨ko3, kc3, rfl, _⟩ := row_slice hkr3; have ck3 := (cells_of_three hkb3).2.1; have HBK3 := hide bk3; have HKB3 := hide hkb3; have HKR3 := hide hkr3; clear hown3 hgrow3 bk3 hkb3 hkr3)
        | (at_builtin; refine wpList_append_own _ rfl (.tmp 45) (.tmp 50) 25 rfl base 37 i5 (.slice none 0 0) 1 24 Try.underlying25 hi5 hy0 hy1 hy2 rfl (by decide) _ _ _ rfl (World.ownsRow.alloc HKR3.out _) ⟨_, 0, none⟩ 4 4 [.slice ao n n, .slice (some ⟨g1, 0, none⟩) (n + 1) c1, .slice (some ⟨g2, 0, none⟩) (n + 2) c2, .slice (some ⟨g3, 0, none⟩) (n + 3) c3] rfl rfl (cell_list_new _ _ _) (by simp [Value.oneCell']) (by unfold maxLen; omega) (by omega) (by have h1 := bl1.size; have h2 := bl2.size; have h3 := bl3.size; simp; omega) ?_; intro v4 w5 hown4 hgrow4 _; obtain ⟨g4, c4, rfl⟩ := ownsRow_succ hown4; have hK4 := bookM_grown HKB3.out HKR3.out (by decide) hgrow4; have ck4 := (cells_of_three hK4).2.1; have cf4 := free_of (j := 1) hK4))
      go_end0
      have s1 := bl1.size
      have s2 := bl2.size
      have s3 := bl3.size
      have b13 : Below w2.heap.size w2 w4 := bl2.trans (bl3.mono s2)
      have m0 : MarkedM w4 w4.heap.size (.slice ao n n) c := ⟨n, o3.out, by omega, fun g hg => (o3.out.lt g hg).2⟩
      have m1 : MarkedM w4 w4.heap.size (.slice (some ⟨g1, 0, none⟩) (n + 1) c1) c := markedM_of rfl (ownsRow_below HO1.out b13) (by omega)
      have m2 : MarkedM w4 w4.heap.size (.slice (some ⟨g2, 0, none⟩) (n + 2) c2) c := markedM_of rfl (ownsRow_below HO2.out bl3) (by omega)
      have m3 : MarkedM w4 w4.heap.size (.slice (some ⟨g3, 0, none⟩) (n + 3) c3) c := markedM_of rfl HO3.out (by omega)
      rw [← HC.out] at m0 m1 m2 m3
      have hP := HBK3.out.push HKB3.out HKR3.out (N := [.slice ao n n, .slice (some ⟨g1, 0, none⟩) (n + 1) c1, .slice (some ⟨g2, 0, none⟩) (n + 2) c2, .slice (some ⟨g3, 0, none⟩) (n + 3) c3]) (by
        intro i hi
        match i, hi with
        | 0, _ => rw [markM_four H4.out (by omega)]; exact m0
        | 1, _ => rw [markM_four H4.out (by omega)]; exact m1
        | 2, _ => rw [markM_four H4.out (by omega)]; exact m2
        | 3, _ => rw [markM_four H4.out (by omega)]; exact m3
        | i + 4, hi => exact absurd hi (by simp)) hown4 hgrow4
      have bw3 : Below base w w4 := ((hB.out.trans (bl1.mono (by omega))).trans (bl2.mono (by omega))).trans (bl3.mono (by omega))
      have bw4 : Below base w w5 := (bw3.alloc (by omega) _).grown hgrow4 (by simp; omega) (fun k hk => (HKR3.out.lt k hk).1)
      exact ⟨rfl, bw4.setCell (p := ⟨K, 1, none⟩) hbK _, _, hP, by simp⟩
end Go.Proofs.Ytlkhmldceekdaaa

/- The law's decode. -/
namespace Go.Proofs.Ytlkhmldceekdaaa
open Go.RowKit Go.Shelf
set_option linter.unusedVariables false

/-- behind a call of the law's: the list is put into the book -/
def LawPost (K base : Nat) (L : List Value) (w : World) (e : Ending) (w' : World) : Prop :=
  e = .returned (.bool true) ∧ Below base w w' ∧ ∃ L', BookM w' K base w'.heap.size L' ∧ L'.length = L.length + 4
theorem refDec_no (s : ByteArray) (w : World) (hs : s.size ≤ maxLen) (h : okMsg s = false) : Calls Try.prog 19 #[.string s] w fun e w' => e = .returned (.tuple #[noMsg, .int .i64 2]) ∧ Below w.heap.size w w' := by
  refine (refDecode_any s w hs).mono ?_
  rintro e w' ⟨⟨h1, _⟩ | ⟨_, h2⟩, hb⟩
  · rw [h] at h1; cases h1
  · exact ⟨h2, hb⟩
theorem refDec_ok (s : ByteArray) (m : Mg) (w : World) (hs : s.size ≤ maxLen) (h : okMsg s = true) (hm : posMsg s = m) : Calls Try.prog 19 #[.string s] w fun e w' => ∃ v, e = .returned (.tuple #[mgV m v, .int .i64 0]) ∧ MovesAt w' v m.moves ∧ Below w.heap.size w w' := by
  refine (refDecode_any s w hs).mono ?_
  rintro e w' ⟨⟨_, v, h1, h2⟩ | ⟨h1, _⟩, hb⟩
  · rw [hm] at h1 h2; exact ⟨v, h1, h2, hb⟩
  · rw [h] at h1; cases h1
theorem movesAt_nil (w : World) : MovesAt w (.slice none 0 0) [] := ⟨⟨none, 0, rfl, fun h => absurd h (by simp)⟩, (fun x hx => absurd hx (by simp)), Nat.zero_le _⟩
theorem MovesRow.fresh {w w' : World} {ao : Option Addr} {ln : Nat} {l : List Mv} (h : MovesRow w w' (.slice ao ln ln) l) : FreshM w' w.heap.size (.slice ao ln ln) ln l ∧ l.length = ln := by
  rcases h with ⟨rfl, e⟩ | ⟨g, e, hg, hh⟩
  · injection e with e1 e2 e3
    subst e1 e2
    exact ⟨.inl ⟨rfl, rfl, rfl⟩, rfl⟩
  · injection e with e1 e2 e3
    subst e1
    subst e2
    exact ⟨.inr ⟨g, rfl, hg, hh, rfl⟩, rfl⟩
theorem MovesRow.atAny {w w' : World} {v : Value} {l : List Mv} (h : MovesRow w w' v l) (h1 : ∀ x ∈ l, x.chain.size ≤ maxLen) (h2 : l.length ≤ 2000000) : MovesAt w' v l := by
  rcases h with ⟨rfl, rfl⟩ | ⟨g, rfl, hg, hh⟩
  · exact movesAt_nil _
  · exact movesAt_row (rowM_of hh rfl (by omega)) rfl h1 h2

set_option maxRecDepth 100000 in
set_option maxHeartbeats 4000000 in
theorem lawDec_no (K base : Nat) (L : List Value) (s : ByteArray) (w : World) (hk : BookM w K base w.heap.size L) (hL : L.length ≤ 90000000) (h4 : L.length % 4 = 0) (hbK : base ≤ K) (hbw : base ≤ w.heap.size) (hs : s.size ≤ maxLen) (h : okMsg s = false) :
    Calls Try.prog 7 #[.pointer (some ⟨K, 0, none⟩), .string s] w (LawPost K base L w) := by
  have HK := hide hk
  have H := hide h
  have H4 := hide h4
  clear hk h h4
  go_enter Try.func7, Try.ntmps7
  go_wp2_with (first
    | (go_at_call 18; refine (decode_no s _ hs H.out).mono ?_; rintro e w1 ⟨rfl, hb1⟩; have X1 := hide (World.alloc_heap_new w1 (.cells #[.int .i64 0, .int .i64 0, .int .i64 0, .int .i64 0, .string ⟨#[]⟩, .int .i64 0, .int .i64 0, .slice none 0 0] 39 (0, 0))))
    | (go_at_call 19; refine (refDec_no s _ hs H.out).mono ?_; rintro e w2 ⟨rfl, hb2⟩; have X2 := hide (box_alloc (o' := .cells #[.int .i64 0, .int .i64 0, .int .i64 0, .int .i64 0, .string ⟨#[]⟩, .int .i64 0, .int .i64 0, .slice none 0 0] 39) ((hb2.block _ (lt_of_block X1.out)).trans X1.out)); have x0 := box_read (i := 0) X2.out rfl; have x1 := box_read (i := 1) X2.out rfl; have x2 := box_read (i := 2) X2.out rfl; have x3 := box_read (i := 3) X2.out rfl; have x4 := box_read (i := 4) X2.out rfl; have x5 := box_read (i := 5) X2.out rfl; have x6 := box_read (i := 6) X2.out rfl; have x7 := box_read (i := 7) X2.out rfl)
    | (go_at_call 20; refine (sameMsg_same ⟨0, 0, 0, 0, ⟨#[]⟩, 0, 0, []⟩ _ _ _ (movesAt_nil _) (movesAt_nil _)).mono ?_; rintro e w3 ⟨rfl, hb3⟩; have X3 := (hb3.block _ (lt_of_block X2.out)).trans X2.out; have z7 := box_read (i := 7) X3 rfl; have s1 := hb1.size; have s2 := hb2.size; have s3 := hb3.size; rw [World.size_alloc] at s2 s3; have hB3 := hide (((((hb1.alloc hb1.size (.cells #[.int .i64 0, .int .i64 0, .int .i64 0, .int .i64 0, .string ⟨#[]⟩, .int .i64 0, .int .i64 0, .slice none 0 0] 39)).trans (hb2.mono (by simp; omega))).alloc (by omega) _).trans (hb3.mono (by simp; omega)))); have bk3 := hide (HK.out.below hB3.out))
    | (go_at_call 17; refine (keepMoves_any K base w.heap.size 0 L [] _ _ bk3.out (.inl ⟨rfl, rfl, rfl⟩) (by omega) (by omega) H4.out hbK hbw).mono ?_; rintro e w5 ⟨rfl, hb5, L', bk5, hl5⟩; have BK5 := hide bk5; have HL5 := hide hl5; clear bk5 hl5))
  go_ret
  exact ⟨rfl, (hB3.out.mono hbw).trans hb5, L', BK5.out, HL5.out⟩

set_option maxRecDepth 100000 in
set_option maxHeartbeats 4000000 in
theorem lawDec_ok (K base : Nat) (L : List Value) (s : ByteArray) (w : World) (hk : BookM w K base w.heap.size L) (hL : L.length ≤ 90000000) (h4 : L.length % 4 = 0) (hbK : base ≤ K) (hbw : base ≤ w.heap.size) (hs : s.size ≤ maxLen) (h : okMsg s = true) :
    Calls Try.prog 7 #[.pointer (some ⟨K, 0, none⟩), .string s] w (LawPost K base L w) := by
  have HK := hide hk
  have H4 := hide h4
  have hd := fun W => decode_ok s W hs h
  have hr := fun W => refDec_ok s _ W hs h (pos_same h)
  clear hk h h4
  generalize (readMsg s false).1 = m at hd hr
  obtain ⟨k, f, h, r, c, p, b, l⟩ := m
  dsimp only at hd hr
  have HD := hide hd
  have HR := hide hr
  clear hd hr
  go_enter Try.func7, Try.ntmps7
  go_wp2_with (first
    | (go_at_call 18; refine (HD.out _).mono ?_; rintro e w1 ⟨v, rfl, hrow, hb1⟩; obtain ⟨ao, ln, rfl⟩ := hrow.slice; have HROW := hide hrow; clear hrow; have X1 := hide (World.alloc_heap_new w1 (.cells #[.int .i64 k, .int .i64 f, .int .i64 h, .int .i64 r, .string c, .int .i64 p, .int .i64 b, .slice ao ln ln] 39 (0, 0))))
    | (go_at_call 19; refine (HR.out _).mono ?_; rintro e w2 ⟨v2, rfl, hat, hb2⟩; obtain ⟨bo, cb, rfl, hat2⟩ := hat.open'; have HAT := hide hat; clear hat hat2; have X2 := hide (box_alloc (o' := .cells #[.int .i64 k, .int .i64 f, .int .i64 h, .int .i64 r, .string c, .int .i64 p, .int .i64 b, .slice bo l.length cb] 39) ((hb2.block _ (lt_of_block X1.out)).trans X1.out)); have x0 := box_read (i := 0) X2.out rfl; have x1 := box_read (i := 1) X2.out rfl; have x2 := box_read (i := 2) X2.out rfl; have x3 := box_read (i := 3) X2.out rfl; have x4 := box_read (i := 4) X2.out rfl; have x5 := box_read (i := 5) X2.out rfl; have x6 := box_read (i := 6) X2.out rfl; have x7 := box_read (i := 7) X2.out rfl; have s1 := hb1.size; have s2 := hb2.size; rw [World.size_alloc] at s2; have hB12 := hide ((((Below.refl _ w1).alloc (Nat.le_refl _) (.cells #[.int .i64 k, .int .i64 f, .int .i64 h, .int .i64 r, .string c, .int .i64 p, .int .i64 b, .slice ao ln ln] 39)).trans (hb2.mono (by simp))).alloc (by omega) (.cells #[.int .i64 k, .int .i64 f, .int .i64 h, .int .i64 r, .string c, .int .i64 p, .int .i64 b, .slice bo l.length cb] 39)); have HB := hide (HAT.out.below ((Below.refl _ w2).alloc (Nat.le_refl _) (.cells #[.int .i64 k, .int .i64 f, .int .i64 h, .int .i64 r, .string c, .int .i64 p, .int .i64 b, .slice bo l.length cb] 39))); have HA := hide ((HROW.out.below hB12.out).atAny HAT.out.2.1 HAT.out.2.2))
    | (go_at_call 20; refine (sameMsg_same ⟨k, f, h, r, c, p, b, l⟩ _ _ _ HA.out HB.out).mono ?_; rintro e w3 ⟨rfl, hb3⟩; have X3 := (hb3.block _ (lt_of_block X2.out)).trans X2.out; have z7 := box_read (i := 7) X3 rfl; have s3 := hb3.size; rw [World.size_alloc] at s3; have hB13 := hide (hB12.out.trans (hb3.mono (by simp; omega))); have hB3 := hide (hb1.trans (hB13.out.mono s1)); have bk3 := hide (HK.out.below hB3.out); have hfr := (HROW.out.below hB13.out).fresh; have HFR := hide hfr.1; have hln : ln ≤ 2000000 := (by rw [← hfr.2]; exact HAT.out.2.2); clear hfr)
    | (go_at_call 17; refine (keepMoves_any K base w.heap.size ln L l _ _ bk3.out HFR.out (by omega) (by omega) H4.out hbK hbw).mono ?_; rintro e w5 ⟨rfl, hb5, L', bk5, hl5⟩; have BK5 := hide bk5; have HL5 := hide hl5; clear bk5 hl5))
  go_ret
  exact ⟨rfl, (hB3.out.mono hbw).trans hb5, L', BK5.out, HL5.out⟩
theorem lawDec_any (K base : Nat) (L : List Value) (s : ByteArray) (w : World) (hk : BookM w K base w.heap.size L) (hL : L.length ≤ 90000000) (h4 : L.length % 4 = 0) (hbK : base ≤ K) (hbw : base ≤ w.heap.size) (hs : s.size ≤ maxLen) :
    Calls Try.prog 7 #[.pointer (some ⟨K, 0, none⟩), .string s] w (LawPost K base L w) := by
  cases h : okMsg s with
  | true => exact lawDec_ok K base L s w hk hL h4 hbK hbw hs h
  | false => exact lawDec_no K base L s w hk hL h4 hbK hbw hs h
end Go.Proofs.Ytlkhmldceekdaaa

/- The law's encode. -/
namespace Go.Proofs.Ytlkhmldceekdaaa
open Go.RowKit Go.Shelf
set_option linter.unusedVariables false

def beyB : ByteArray := ⟨#[98, 101, 121, 111, 110, 100]⟩
theorem make_room (n : Nat) (hn : n ≤ 2000000) (w : World) : (Instr.makeSlice 37 (.int .i64 ((n : Int) + 8)) (.int .i64 ((n : Int) + 8))).run Try.prog w = .ok (.slice (some ⟨w.heap.size, 0, none⟩) (n + 8) (n + 8)) (w.alloc (.cells (flatV (List.replicate (n + 8) noMv)).toArray 43)) := by
  have h := make_movesL (n + 8) (by omega) w
  rw [Int.natCast_add] at h
  exact h
/-- the beginning of a row of Moves -/
theorem movesAt_front {w : World} {g n cap : Nat} {l r : List Mv} (h : w.heap[g]? = some (.cells (flatV (l ++ r)).toArray 43 (0, 0))) (hln : l.length = n) (hc : ∀ x ∈ l, x.chain.size ≤ maxLen) (hl : l.length ≤ 2000000) : MovesAt w (.slice (some ⟨g, 0, none⟩) n cap) l := by
  refine ⟨⟨_, cap, by rw [hln], fun _ => ⟨g, 0, rfl, lt_of_block h, fun i hi => ?_⟩⟩, hc, hl⟩
  have q := flatV_get (l.take i) (l.drop (i + 1) ++ r) l[i] i (by rw [List.length_take]; omega)
  rw [← List.cons_append, ← List.drop_eq_getElem_cons hi, ← List.append_assoc, List.take_append_drop] at q
  rw [Nat.zero_add]
  exact ⟨box_read h (by simpa using q.1), box_read h (by simpa using q.2.1), box_read h (by simpa using q.2.2.1), box_read h (by simpa using q.2.2.2)⟩
theorem fill_row (l : List Mv) (x : Mv) (i n : Nat) (h1 : n ≤ i) (h2 : i < n + 8) : l ++ List.replicate (i - n) x ++ noMv :: List.replicate (n + 8 - (i + 1)) noMv = l ++ List.replicate (i - n) x ++ List.replicate (n + 8 - i) noMv := by
  rw [← List.replicate_succ, show n + 8 - (i + 1) + 1 = n + 8 - i by omega]
theorem fill_next (l : List Mv) (x : Mv) (i n : Nat) (h1 : n ≤ i) (h2 : i < n + 8) : l ++ List.replicate (i - n) x ++ x :: List.replicate (n + 8 - (i + 1)) noMv = l ++ List.replicate (i + 1 - n) x ++ List.replicate (n + 8 - (i + 1)) noMv := by
  rw [show i + 1 - n = i - n + 1 by omega, List.replicate_succ', List.append_assoc, List.append_assoc, List.append_assoc]; rfl

set_option maxRecDepth 100000 in
set_option maxHeartbeats 8000000 in
theorem lawEnc_any (K base : Nat) (L : List Value) (m : Mg) (v : Value) (w : World) (hk : BookM w K base w.heap.size L) (hL : L.length ≤ 90000000) (h4 : L.length % 4 = 0) (hbK : base ≤ K) (hbw : base ≤ w.heap.size) (hv : MovesAt w v m.moves) (hc : m.chain.size ≤ maxLen) (hn : m.moves.length ≤ 1100000) :
    Calls Try.prog 6 #[.pointer (some ⟨K, 0, none⟩), mgV m v] w (LawPost K base L w) := by
  obtain ⟨t, er, he⟩ := encRes_two m
  have hpe := fun (W : World) (u : Value) (hu : MovesAt W u m.moves) => encode_is t er m u W hu hc he
  have hre := fun (W : World) (u : Value) (hu : MovesAt W u m.moves) => refEnc_any m u W hu hc
  rw [he] at hre
  clear he
  obtain ⟨k, f, h, r, c, p, b, l⟩ := m
  dsimp only at hv hc hn hpe hre
  obtain ⟨n, hln⟩ : ∃ n, l.length = n := ⟨_, rfl⟩
  rw [hln] at hn
  have hchs : ∀ x ∈ l, x.chain.size ≤ maxLen := hv.2.1
  have HCHS := hide hchs
  obtain ⟨ao, cap, rfl, hsrc⟩ := hv.open'
  rw [hln] at hv ⊢
  have HPE := hide hpe
  have HRE := hide hre
  have HK := hide hk
  have H4 := hide h4
  have HV := hide hv
  have HLN := hide hln
  have HA := World.alloc_heap_new w (.cells #[.int .i64 k, .int .i64 f, .int .i64 h, .int .i64 r, .string c, .int .i64 p, .int .i64 b, .slice ao n cap] 39 (0, 0))
  have HA1 := box_alloc (o' := .cells (flatV (List.replicate (n + 8) noMv)).toArray 43) HA
  have HG1 : ((w.alloc (.cells #[.int .i64 k, .int .i64 f, .int .i64 h, .int .i64 r, .string c, .int .i64 p, .int .i64 b, .slice ao n cap] 39)).alloc (.cells (flatV (List.replicate (n + 8) noMv)).toArray 43)).heap[w.heap.size + 1]? = some (.cells (flatV (List.replicate (n + 8) noMv)).toArray 43 (0, 0)) := by
    have := World.alloc_heap_new (w.alloc (.cells #[.int .i64 k, .int .i64 f, .int .i64 h, .int .i64 r, .string c, .int .i64 p, .int .i64 b, .slice ao n cap] 39)) (.cells (flatV (List.replicate (n + 8) noMv)).toArray 43 (0, 0))
    rw [World.size_alloc] at this
    exact this
  have hB1 : Below w.heap.size w ((w.alloc (.cells #[.int .i64 k, .int .i64 f, .int .i64 h, .int .i64 r, .string c, .int .i64 p, .int .i64 b, .slice ao n cap] 39)).alloc (.cells (flatV (List.replicate (n + 8) noMv)).toArray 43)) := ((Below.refl _ w).alloc (Nat.le_refl _) _).alloc (by simp) _
  have hbk1 := hk.below hB1
  have hat1 := hv.below hB1
  have hsr1 : ∀ a, ao = some a → ∀ j u, (flatV l)[j]? = some u → ((w.alloc (.cells #[.int .i64 k, .int .i64 f, .int .i64 h, .int .i64 r, .string c, .int .i64 p, .int .i64 b, .slice ao n cap] 39)).alloc (.cells (flatV (List.replicate (n + 8) noMv)).toArray 43)).cell? (a.add j) = some u := by
    intro a ha j u hu
    have hj : 0 < n := by
      have := (List.getElem?_eq_some_iff.1 hu).1
      rw [flatV_length, hln] at this
      omega
    obtain ⟨ao', cap', e, hx⟩ := hat1.open'
    injection e with e1 e2 e3
    obtain ⟨bb, off, e4, _, hx2⟩ := hx (by omega)
    rw [← e1, ha] at e4
    cases e4
    exact moves_src hx2 j u hu
  have hnone : ao = none → n = 0 := by
    intro e
    by_cases h0 : 0 < n
    · obtain ⟨bb, off, e4, _⟩ := hsrc (by omega)
      rw [e] at e4; cases e4
    · omega
  have hmk := make_room n (by omega) (w.alloc (.cells #[.int .i64 k, .int .i64 f, .int .i64 h, .int .i64 r, .string c, .int .i64 p, .int .i64 b, .slice ao n cap] 39))
  have hcp := run_copy_M ((w.alloc (.cells #[.int .i64 k, .int .i64 f, .int .i64 h, .int .i64 r, .string c, .int .i64 p, .int .i64 b, .slice ao n cap] 39)).alloc (.cells (flatV (List.replicate (n + 8) noMv)).toArray 43)) 3 (w.heap.size + 1) n 8 ao cap l hln HG1 hnone hsr1
  obtain ⟨w2, hw2⟩ : ∃ w2, ((w.alloc (.cells #[.int .i64 k, .int .i64 f, .int .i64 h, .int .i64 r, .string c, .int .i64 p, .int .i64 b, .slice ao n cap] 39)).alloc (.cells (flatV (List.replicate (n + 8) noMv)).toArray 43)).setRow (w.heap.size + 1) (flatV (l ++ List.replicate 8 noMv)).toArray = w2 := ⟨_, rfl⟩
  have hgr2 : ((w.alloc (.cells #[.int .i64 k, .int .i64 f, .int .i64 h, .int .i64 r, .string c, .int .i64 p, .int .i64 b, .slice ao n cap] 39)).alloc (.cells (flatV (List.replicate (n + 8) noMv)).toArray 43)).grownBy w2 (some (w.heap.size + 1)) := by
    rw [← hw2]
    exact ⟨rfl, rfl, rfl, by simp [World.setRow], fun k hk hne => setRow_other _ _ k _ (fun e => hne (by rw [e]))⟩
  have hG2 : Hid (w2.heap[w.heap.size + 1]? = some (.cells (flatV (l ++ List.replicate 8 noMv)).toArray 43 (0, 0))) := by
    show _ = _
    rw [← hw2]
    exact setRow_heap _ _ _ _ _ _ HG1
  have hA2 := hide (heap_grown hgr2 HA1 (by omega))
  have hBK2 := hide (hbk1.grown HG1 (by omega) hgr2)
  have hB2 := hide (Below.grown hB1 hgr2 (by simp; omega) (fun k hk => by injection hk with hk; omega))
  rw [hw2] at hcp
  have HHA1 := hide HA1
  have HHG1 := hide HG1
  have HB1 := hide hB1
  have HBK1 := hide hbk1
  have HSR1 := hide hsr1
  have HNONE := hide hnone
  clear hgr2 hw2 HA HA1 HG1 hB1 hbk1 hat1 hsr1 hnone hpe hre hk h4 hv hln hchs hsrc
  go_enter Try.func6, Try.ntmps6
  go_wp2
  clear hmk hcp
  go_loopw [7] (fun ii wr => ∃ (i : Nat), n ≤ i ∧ i ≤ n + 8 ∧ ii = .int .i64 (i : Int) ∧ Hid (wr.heap[w.heap.size + 1]? = some (.cells (flatV (l ++ List.replicate (i - n) (mkMv beyB) ++ List.replicate (n + 8 - i) noMv)).toArray 43 (0, 0))) ∧ Hid (wr.heap[w.heap.size]? = some (.cells #[.int .i64 k, .int .i64 f, .int .i64 h, .int .i64 r, .string c, .int .i64 p, .int .i64 b, .slice ao n cap] 39 (0, 0))) ∧ Hid (BookM wr K base w.heap.size L) ∧ Hid (Below w.heap.size w wr)) (fun i _ => n + 8 - (intOf i).toNat)
  case atStart => exact ⟨n, by omega, by omega, rfl, by
      have e := hG2.out
      rw [Nat.sub_self, show n + 8 - n = 8 by omega, List.replicate_zero, List.append_nil]; exact e, hA2, hBK2, hB2⟩
  case round =>
    obtain ⟨i, hi1, hi2, rfl, hG, hA, hBK, hB⟩ := hrel
    by_cases hlt : i < n + 8
    · have hG0 := hG.out
      rw [← fill_row l (mkMv beyB) i n hi1 hlt] at hG0
      have hlen : (l ++ List.replicate (i - n) (mkMv beyB)).length = i := by rw [List.length_append, HLN.out, List.length_replicate]; omega
      have q := flatV_get (l ++ List.replicate (i - n) (mkMv beyB)) (List.replicate (n + 8 - (i + 1)) noMv) noMv i hlen
      have q0 := box_read (i := i * 4) hG0 (by simpa using q.1)
      have q1 := box_read (i := i * 4 + 1) hG0 (by simpa using q.2.1)
      have q2 := box_read (i := i * 4 + 2) hG0 (by simpa using q.2.2.1)
      have q3 := box_read (i := i * 4 + 3) hG0 (by simpa using q.2.2.2)
      have e0 := free_of (j := i * 4) hG0
      have e1 := free_of (j := i * 4 + 1) hG0
      have e2 := free_of (j := i * 4 + 2) hG0
      have e3 := free_of (j := i * 4 + 3) hG0
      have st := store_move (x := mkMv beyB) hG0 hlen
      rw [fill_next l (mkMv beyB) i n hi1 hlt] at st
      have ST := hide st
      have hgr := grown_four wr (w.heap.size + 1) (i * 4) (i * 4 + 1) (i * 4 + 2) (i * 4 + 3) (.int .i64 (mkMv beyB).node) (.int .i64 (mkMv beyB).prep) (.string (mkMv beyB).chain) (.int .i64 (mkMv beyB).by')
      have HBKN := hide (hBK.out.grown hG0 (by omega) hgr)
      have HAN := hide (heap_grown hgr hA.out (by omega))
      have HBN := hide (below_four hB.out (g := w.heap.size + 1) (by omega) (i * 4) (i * 4 + 1) (i * 4 + 2) (i * 4 + 3) (.int .i64 (mkMv beyB).node) (.int .i64 (mkMv beyB).prep) (.string (mkMv beyB).chain) (.int .i64 (mkMv beyB).by'))
      have j0 : (0 : Int) ≤ (i : Int) := by omega
      have j1 : (i : Int) < (n : Int) + 8 := by omega
      clear q hG0 st hgr hlen
      go_wp2
      go_roundw
      case rel => exact ⟨i + 1, by omega, by omega, by go_num, ST, HAN, HBKN, HBN⟩
      case measure => simp [intOf]; omega
    · have hie : i = n + 8 := by omega
      have hG0 := hG.out
      rw [hie, show n + 8 - n = 8 by omega, Nat.sub_self, List.replicate_zero, List.append_nil] at hG0
      have HG := hide hG0
      have z0 := box_read (i := 0) hA.out rfl
      have z1 := box_read (i := 1) hA.out rfl
      have z2 := box_read (i := 2) hA.out rfl
      have z3 := box_read (i := 3) hA.out rfl
      have z4 := box_read (i := 4) hA.out rfl
      have z5 := box_read (i := 5) hA.out rfl
      have z6 := box_read (i := 6) hA.out rfl
      have z7 := box_read (i := 7) hA.out rfl
      have j0 : (0 : Int) ≤ (n : Int) := by omega
      have j1 : (n : Int) ≤ (n : Int) + 8 := by omega
      have HX := hide (box_alloc (o' := .cells #[.int .i64 k, .int .i64 f, .int .i64 h, .int .i64 r, .string c, .int .i64 p, .int .i64 b, .slice (some ⟨w.heap.size + 1, 0, none⟩) n (n + 8)] 39) hG0)
      have HXA := hide (box_alloc (o' := .cells #[.int .i64 k, .int .i64 f, .int .i64 h, .int .i64 r, .string c, .int .i64 p, .int .i64 b, .slice (some ⟨w.heap.size + 1, 0, none⟩) n (n + 8)] 39) hA.out)
      have hMV : Hid (MovesAt (wr.alloc (.cells #[.int .i64 k, .int .i64 f, .int .i64 h, .int .i64 r, .string c, .int .i64 p, .int .i64 b, .slice (some ⟨w.heap.size + 1, 0, none⟩) n (n + 8)] 39)) (.slice (some ⟨w.heap.size + 1, 0, none⟩) n (n + 8)) l) := movesAt_front HX.out HLN.out HCHS.out (by rw [HLN.out]; omega)
      have hBX : Hid (Below w.heap.size w (wr.alloc (.cells #[.int .i64 k, .int .i64 f, .int .i64 h, .int .i64 r, .string c, .int .i64 p, .int .i64 b, .slice (some ⟨w.heap.size + 1, 0, none⟩) n (n + 8)] 39))) := hB.out.alloc hB.out.size _
      clear hG0 hG hie
      go_wp2_with (first
        | (go_at_call 15; refine (HPE.out _ _ hMV.out).mono ?_; rintro e w3 ⟨rfl, hb3⟩; have A3 := hide ((hb3.block _ (lt_of_block HXA.out)).trans HXA.out); have G3 := hide ((hb3.block _ (lt_of_block HX.out)).trans HX.out); have B3 := hide (hBX.out.trans (hb3.mono hBX.out.size)); have y0 := box_read (i := 0) A3.out rfl; have y1 := box_read (i := 1) A3.out rfl; have y2 := box_read (i := 2) A3.out rfl; have y3 := box_read (i := 3) A3.out rfl; have y4 := box_read (i := 4) A3.out rfl; have y5 := box_read (i := 5) A3.out rfl; have y6 := box_read (i := 6) A3.out rfl; have y7 := box_read (i := 7) A3.out rfl)
        | (go_at_call 16; refine (HRE.out _ _ (HV.out.below B3.out)).mono ?_; rintro e w4 ⟨rfl, hb4⟩; have A4 := hide ((hb4.block _ (lt_of_block A3.out)).trans A3.out); have G4 := hide ((hb4.block _ (lt_of_block G3.out)).trans G3.out); have B4 := hide (B3.out.trans (hb4.mono B3.out.size)); have u7 := box_read (i := 7) A4.out rfl))
      clear z0 z1 z2 z3 z4 z5 z6 z7 y0 y1 y2 y3 y4 y5 y6 y7
      have hat4 := HV.out.below B4.out
      have HAT4 := hide hat4
      have BK4 := hide (HK.out.below B4.out)
      clear hat4
      go_loopw [13] (fun ii wr => ∃ (i d : Nat), i ≤ n + 8 ∧ ii = .int .i64 (i : Int) ∧ wr = w4.drewN d) (fun i _ => n + 8 - (intOf i).toNat)
      case atStart => exact ⟨0, 0, by omega, rfl, rfl⟩
      case round =>
        obtain ⟨i, d, hi, rfl, rfl⟩ := hrel
        by_cases hlt8 : i < n + 8
        · have i0 : (0 : Int) ≤ (i : Int) := by omega
          have i8 : (i : Int) < (n : Int) + 8 := by omega
          by_cases hin : i < n
          · obtain ⟨ao', cap', e, hx⟩ := HAT4.out.open'
            injection e with e1 e2 e3
            obtain ⟨bb, off, e4, _, hx2⟩ := hx (by rw [HLN.out]; omega)
            rw [← e1] at e4
            subst e4
            have hil : i < l.length := by rw [HLN.out]; exact hin
            obtain ⟨d0, d1, d2, d3⟩ := hx2 i hil
            have q := flatV_get (l.take i) (l.drop (i + 1) ++ List.replicate 8 (mkMv beyB)) l[i] i (by rw [List.length_take]; omega)
            rw [← List.cons_append, ← List.drop_eq_getElem_cons hil, ← List.append_assoc, List.take_append_drop] at q
            have q0 := box_read (i := i * 4) G4.out (by simpa using q.1)
            have q1 := box_read (i := i * 4 + 1) G4.out (by simpa using q.2.1)
            have q2 := box_read (i := i * 4 + 2) G4.out (by simpa using q.2.2.1)
            have q3 := box_read (i := i * 4 + 3) G4.out (by simpa using q.2.2.2)
            obtain ⟨x, hxx⟩ : ∃ x, l[i] = x := ⟨_, rfl⟩
            rw [hxx] at d0 d1 d2 d3 q0 q1 q2 q3
            obtain ⟨xn, xp, xc, xb⟩ := x
            dsimp only at d0 d1 d2 d3 q0 q1 q2 q3
            clear hxx q hx hx2 e1 e2 e3 hil
            have i1 : decide ((i : Int) < (n : Int)) = true := by simp; omega
            have i2 : decide ((n : Int) ≤ (i : Int)) = false := by simp; omega
            have i4 : decide (n ≤ i) = false := by simp; omega
            have i5 : decide (i < n) = true := by simp; omega
            have i3 : (i : Int) < (n : Int) := by omega
            go_wp2
            go_quiet (fail)
            go_wp2
            go_roundw
            case rel => exact ⟨i + 1, d + nq, by omega, by go_num, rfl⟩
            case measure => simp [intOf]; omega
          · have q := flatV_get (l ++ List.replicate (i - n) (mkMv beyB)) (List.replicate (8 - (i - n + 1)) (mkMv beyB)) (mkMv beyB) i (by rw [List.length_append, HLN.out, List.length_replicate]; omega)
            rw [List.append_assoc, ← rep_split (mkMv beyB) (show i - n < 8 by omega)] at q
            have q0 := box_read (i := i * 4) G4.out (by simpa using q.1)
            have q1 := box_read (i := i * 4 + 1) G4.out (by simpa using q.2.1)
            have q2 := box_read (i := i * 4 + 2) G4.out (by simpa using q.2.2.1)
            have q3 := box_read (i := i * 4 + 3) G4.out (by simpa using q.2.2.2)
            have q2' : w4.cell? ⟨w.heap.size + 1, i * 4 + 2, none⟩ = some (.string ⟨#[98, 101, 121, 111, 110, 100]⟩) := q2
            have q0' : w4.cell? ⟨w.heap.size + 1, i * 4, none⟩ = some (.int .i64 0) := q0
            have q1' : w4.cell? ⟨w.heap.size + 1, i * 4 + 1, none⟩ = some (.int .i64 0) := q1
            have q3' : w4.cell? ⟨w.heap.size + 1, i * 4 + 3, none⟩ = some (.int .i64 0) := q3
            clear q q0 q1 q2 q3
            have i1 : decide ((i : Int) < (n : Int)) = false := by simp; omega
            have i2 : decide ((n : Int) ≤ (i : Int)) = true := by simp; omega
            have i4 : decide (n ≤ i) = true := by simp; omega
            have i5 : decide (i < n) = false := by simp; omega
            go_wp2
            go_quiet (fail)
            go_wp2
            go_roundw
            case rel => exact ⟨i + 1, d + nq, by omega, by go_num, rfl⟩
            case measure => simp [intOf]; omega
        · have hBd := hide (B4.out.trans ((below_drewN' w4 d).mono B4.out.size))
          have bkd := hide (BK4.out.below (below_drewN' w4 d))
          have hfr : Hid (FreshM (w4.drewN d) w.heap.size (.slice (some ⟨w.heap.size + 1, 0, none⟩) (n + 8) (n + 8)) (n + 8) (l ++ List.replicate 8 (mkMv beyB))) := .inr ⟨w.heap.size + 1, rfl, by omega, ((below_drewN' w4 d).block _ (lt_of_block G4.out)).trans G4.out, by rw [List.length_append, HLN.out, List.length_replicate]⟩
          go_wp2_with (go_at_call 17; refine (keepMoves_any K base w.heap.size (n + 8) L _ _ _ bkd.out hfr.out (by omega) (by omega) H4.out hbK hbw).mono ?_; rintro e w5 ⟨rfl, hb5, L', bk5, hl5⟩; have BK5 := hide bk5; have HL5 := hide hl5; clear bk5 hl5)
          go_ret
          exact ⟨rfl, (hBd.out.mono hbw).trans hb5, L', BK5.out, HL5.out⟩
end Go.Proofs.Ytlkhmldceekdaaa

/- The law Codes, walked. -/
namespace Go.Proofs.Ytlkhmldceekdaaa
open Go.RowKit Go.Shelf
set_option linter.unusedVariables false

theorem bookM_new (w : World) : BookM (w.alloc (.cells #[.slice none 0 0, .slice none 0 0, .slice none 0 0] 28)) w.heap.size w.heap.size (w.alloc (.cells #[.slice none 0 0, .slice none 0 0, .slice none 0 0] 28)).heap.size [] :=
  ⟨⟨.slice none 0 0, World.alloc_heap_new w _, World.ownsRow_nil _ _ _ _⟩, fun i hi => by simp at hi, Nat.le_refl _⟩
/-- the cells of a message that came in -/
def MsgAt (w : World) (b off : Nat) (m : Mg) (v : Value) : Prop :=
  (w.cell? ⟨b, off, none⟩ = some (.int .i64 m.kind) ∧ w.cell? ⟨b, off + 1, none⟩ = some (.int .i64 m.frm) ∧ w.cell? ⟨b, off + 2, none⟩ = some (.int .i64 m.height) ∧ w.cell? ⟨b, off + 3, none⟩ = some (.int .i64 m.round) ∧ w.cell? ⟨b, off + 4, none⟩ = some (.string m.chain) ∧ w.cell? ⟨b, off + 5, none⟩ = some (.int .i64 m.prep) ∧ w.cell? ⟨b, off + 6, none⟩ = some (.int .i64 m.by') ∧ w.cell? ⟨b, off + 7, none⟩ = some v) ∧
  MovesAt w v m.moves ∧ m.chain.size ≤ maxLen ∧ m.moves.length ≤ 1100000
theorem MsgAt.below {w w' : World} {b off : Nat} {m : Mg} {v : Value} (h : MsgAt w b off m v) (hb : Below w.heap.size w w') (hlt : b < w.heap.size) : MsgAt w' b off m v := by
  obtain ⟨⟨c0, c1, c2, c3, c4, c5, c6, c7⟩, hv, h2⟩ := h
  exact ⟨⟨(hb.cell (p := ⟨b, _, none⟩) hlt).trans c0, (hb.cell (p := ⟨b, _, none⟩) hlt).trans c1, (hb.cell (p := ⟨b, _, none⟩) hlt).trans c2, (hb.cell (p := ⟨b, _, none⟩) hlt).trans c3, (hb.cell (p := ⟨b, _, none⟩) hlt).trans c4, (hb.cell (p := ⟨b, _, none⟩) hlt).trans c5, (hb.cell (p := ⟨b, _, none⟩) hlt).trans c6, (hb.cell (p := ⟨b, _, none⟩) hlt).trans c7⟩, hv.below hb, h2⟩
def lastMoves : List Mv := [⟨0, 0, ⟨#[49, 46, 48]⟩, 7⟩, ⟨3, -1, ⟨#[]⟩, 0⟩]
theorem last_at (w : World) : MovesAt (w.alloc (.cells #[.int .i64 0, .int .i64 0, .string ⟨#[49, 46, 48]⟩, .int .i64 7, .int .i64 3, .int .i64 (-1), .string ⟨#[]⟩, .int .i64 0] 43)) (.slice (some ⟨w.heap.size, 0, none⟩) 2 2) lastMoves :=
  movesAt_front (l := lastMoves) (r := []) (World.alloc_heap_new w _) rfl (by intro x hx; simp [lastMoves] at hx; rcases hx with rfl | rfl <;> (unfold maxLen; decide)) (by decide)

set_option maxRecDepth 100000 in
set_option maxHeartbeats 8000000 in
theorem codes_walk (ao : Option Addr) (len cap b off : Nat) (bo : Option Addr) (len2 cap2 b2 off2 : Nat) (M : Nat → Mg) (V : Nat → Value) (T : Nat → ByteArray) (w : World)
    (hlen : len ≤ 1048576) (hcap : len ≤ cap) (hao : 0 < len → ao = some ⟨b, off, none⟩) (hb : 0 < len → b < w.heap.size) (hm : ∀ i, i < len → MsgAt w b (off + i * 8) (M i) (V i))
    (hlen2 : len2 ≤ 1048576) (hcap2 : len2 ≤ cap2) (hao2 : 0 < len2 → bo = some ⟨b2, off2, none⟩) (hb2 : 0 < len2 → b2 < w.heap.size) (ht : ∀ i, i < len2 → w.cell? ⟨b2, off2 + i, none⟩ = some (.string (T i)) ∧ (T i).size ≤ maxLen) :
    Calls Try.prog 4 #[.slice ao len cap, .slice bo len2 cap2] w fun e w' => e = .returned (.bool true) ∧ Below w.heap.size w w' := by
  have HM := hide hm
  have HAO := hide hao
  have HB := hide hb
  have HT := hide ht
  have HAO2 := hide hao2
  have HB2 := hide hb2
  clear hm hao hb ht hao2 hb2
  go_enter Try.func4, Try.ntmps4
  go_wp2
  go_loopw [6] (fun i wr => ∃ (k : Nat) (L : List Value), (k ≤ len ∨ k ≤ len2) ∧ i = .int .i64 (k : Int) ∧ Hid (BookM wr w.heap.size w.heap.size wr.heap.size L) ∧ Hid (L.length ≤ 8 * k ∧ L.length % 4 = 0) ∧ Hid (Below w.heap.size w wr)) (fun i _ => len + len2 + 1 - (intOf i).toNat)
  case atStart => exact ⟨0, [], by omega, rfl, bookM_new w, ⟨by simp, rfl⟩, (Below.refl _ w).alloc (Nat.le_refl _) _⟩
  case round =>
    obtain ⟨k, L, hk, rfl, hbk, hL, hB⟩ := hrel
    have hsz := hB.out.size
    have k0 : (0 : Int) ≤ (k : Int) := by omega
    have hl1 : L.length ≤ 90000000 := by have := hL.out.1; omega
    have hl0 : L.length ≤ 80000000 := by have := hL.out.1; omega
    by_cases h1 : k < len
    · have e := HAO.out (by omega)
      subst e
      have hbw := HB.out (by omega)
      have hmsg := (HM.out k h1).below hB.out hbw
      obtain ⟨v, hv⟩ : ∃ v, V k = v := ⟨_, rfl⟩
      obtain ⟨m, hmm⟩ : ∃ m, M k = m := ⟨_, rfl⟩
      rw [hv, hmm] at hmsg
      clear hv hmm
      obtain ⟨kk, f, h, r, c, p, bb, l⟩ := m
      obtain ⟨⟨c0, c1, c2, c3, c4, c5, c6, c7⟩, hmv, hcs, hml⟩ := hmsg
      obtain ⟨vo, vc, rfl, hvv⟩ := hmv.open'
      dsimp only at c0 c1 c2 c3 c4 c5 c6 c7 hmv hcs hml
      have HMV := hide hmv
      clear hvv hmv
      have hA := fun (W : World) (hW : BookM W w.heap.size w.heap.size W.heap.size L) (hWs : w.heap.size ≤ W.heap.size) (hWv : MovesAt W (.slice vo l.length vc) l) => lawEnc_any w.heap.size w.heap.size L ⟨kk, f, h, r, c, p, bb, l⟩ (.slice vo l.length vc) W hW hl1 hL.out.2 (Nat.le_refl _) hWs hWv hcs hml
      have HA := hide hA
      clear hA
      have i1 : (k : Int) < (len : Int) := by omega
      have i1B : decide ((k : Int) < (len : Int)) = true := by simp; omega
      by_cases h2 : k < len2
      · have e2 := HAO2.out (by omega)
        subst e2
        have hbw2 := HB2.out (by omega)
        obtain ⟨t, htt⟩ : ∃ t, T k = t := ⟨_, rfl⟩
        obtain ⟨d0, hts⟩ := HT.out k h2
        rw [htt] at d0 hts
        clear htt
        have i2 : (k : Int) < (len2 : Int) := by omega
        have i2B : decide ((k : Int) < (len2 : Int)) = true := by simp; omega
        go_wp2_with (first
          | (go_at_call 6; refine (HA.out _ hbk.out hsz HMV.out).mono ?_; rintro e w1 ⟨rfl, hb1, L1, bk1, hl1'⟩; have BK1 := hide bk1; have HL1 := hide hl1'; have d1 := ((hB.out.trans hb1).cell (p := ⟨b2, off2 + k, none⟩) hbw2).trans d0; clear bk1 hl1')
          | (go_at_call 7; refine (lawDec_any w.heap.size w.heap.size L1 t _ BK1.out (by have := HL1.out; omega) (by have := HL1.out; have := hL.out.2; omega) (Nat.le_refl _) (Nat.le_trans hsz hb1.size) hts).mono ?_; rintro e w2 ⟨rfl, hbb2, L2, bk2, hl2'⟩; have BK2 := hide bk2; have HL2 := hide hl2'; clear bk2 hl2')
          | (go_at_call 8; refine (staysM_any w.heap.size w.heap.size _ L2 _ BK2.out (by have := HL1.out; have := HL2.out; omega)).mono ?_; rintro e w3 ⟨rfl, hb3⟩; have BK3 := hide (BK2.out.below hb3)))
        have s1 := hb1.size
        have s2 := hbb2.size
        go_roundw
        case rel => exact ⟨k + 1, L2, by omega, by go_num, BK3.out.top_mono hb3.size (Nat.le_refl _), ⟨by have := HL1.out; have := HL2.out; have := hL.out.1; omega, by have := HL1.out; have := HL2.out; have := hL.out.2; omega⟩, ((hB.out.trans hb1).trans hbb2).trans (hb3.mono (by omega))⟩
        case measure => simp [intOf]; omega
      · have i2B : decide ((k : Int) < (len2 : Int)) = false := by simp; omega
        go_wp2_with (first
          | (go_at_call 6; refine (HA.out _ hbk.out hsz HMV.out).mono ?_; rintro e w1 ⟨rfl, hb1, L1, bk1, hl1'⟩; have BK1 := hide bk1; have HL1 := hide hl1'; clear bk1 hl1')
          | (go_at_call 8; refine (staysM_any w.heap.size w.heap.size _ L1 _ BK1.out (by have := HL1.out; omega)).mono ?_; rintro e w3 ⟨rfl, hb3⟩; have BK3 := hide (BK1.out.below hb3)))
        have s1 := hb1.size
        go_roundw
        case rel => exact ⟨k + 1, L1, by omega, by go_num, BK3.out.top_mono hb3.size (Nat.le_refl _), ⟨by have := HL1.out; have := hL.out.1; omega, by have := HL1.out; have := hL.out.2; omega⟩, (hB.out.trans hb1).trans (hb3.mono (by omega))⟩
        case measure => simp [intOf]; omega
    · have i1B : decide ((k : Int) < (len : Int)) = false := by simp; omega
      by_cases h2 : k < len2
      · have e2 := HAO2.out (by omega)
        subst e2
        have hbw2 := HB2.out (by omega)
        obtain ⟨t, htt⟩ : ∃ t, T k = t := ⟨_, rfl⟩
        obtain ⟨d0, hts⟩ := HT.out k h2
        rw [htt] at d0 hts
        clear htt
        have d1 := (hB.out.cell (p := ⟨b2, off2 + k, none⟩) hbw2).trans d0
        have i2 : (k : Int) < (len2 : Int) := by omega
        have i2B : decide ((k : Int) < (len2 : Int)) = true := by simp; omega
        go_wp2_with (first
          | (go_at_call 7; refine (lawDec_any w.heap.size w.heap.size L t _ hbk.out hl1 hL.out.2 (Nat.le_refl _) hsz hts).mono ?_; rintro e w2 ⟨rfl, hbb2, L2, bk2, hl2'⟩; have BK2 := hide bk2; have HL2 := hide hl2'; clear bk2 hl2')
          | (go_at_call 8; refine (staysM_any w.heap.size w.heap.size _ L2 _ BK2.out (by have := HL2.out; omega)).mono ?_; rintro e w3 ⟨rfl, hb3⟩; have BK3 := hide (BK2.out.below hb3)))
        have s2 := hbb2.size
        go_roundw
        case rel => exact ⟨k + 1, L2, by omega, by go_num, BK3.out.top_mono hb3.size (Nat.le_refl _), ⟨by have := HL2.out; have := hL.out.1; omega, by have := HL2.out; have := hL.out.2; omega⟩, (hB.out.trans hbb2).trans (hb3.mono (by omega))⟩
        case measure => simp [intOf]; omega
      · have i2B : decide ((k : Int) < (len2 : Int)) = false := by simp; omega
        have hlast := fun (W : World) (u : Value) (hW : BookM W w.heap.size w.heap.size W.heap.size L) (hWs : w.heap.size ≤ W.heap.size) (hWv : MovesAt W u lastMoves) => lawEnc_any w.heap.size w.heap.size L ⟨1, 2, 1, 1, ⟨#[49, 46, 48]⟩, -1, 0, lastMoves⟩ u W hW hl1 hL.out.2 (Nat.le_refl _) hWs hWv (by unfold maxLen; decide) (by decide)
        have HLAST := hide hlast
        clear hlast
        have HBA := hide ((hbk.out.below ((Below.refl _ wr).alloc (Nat.le_refl _) (.cells #[.int .i64 0, .int .i64 0, .string ⟨#[49, 46, 48]⟩, .int .i64 7, .int .i64 3, .int .i64 (-1), .string ⟨#[]⟩, .int .i64 0] 43))).top_mono (by simp) (Nat.le_refl _))
        go_wp2_with (first
          | (go_at_call 6; refine (HLAST.out _ _ HBA.out (by simp; omega) (last_at _)).mono ?_; rintro e w1 ⟨rfl, hb1, L1, bk1, hl1'⟩; have BK1 := hide bk1; have HL1 := hide hl1'; clear bk1 hl1')
          | (go_at_call 7; refine (lawDec_any w.heap.size w.heap.size L1 _ _ BK1.out (by have := HL1.out; omega) (by have := HL1.out; have := hL.out.2; omega) (Nat.le_refl _) (by have := hb1.size; simp at this; omega) (by unfold maxLen; decide)).mono ?_; rintro e w2 ⟨rfl, hbb2, _⟩))
        go_ret
        exact ⟨rfl, ((hB.out.alloc hsz _).trans hb1).trans hbb2⟩
end Go.Proofs.Ytlkhmldceekdaaa
