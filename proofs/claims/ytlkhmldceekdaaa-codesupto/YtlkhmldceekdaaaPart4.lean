import Derived.Test.YtlkhmldceekdaaaPart3
import Derived.RangeFuncNested
import Derived.RangeFuncBound
import Derived.RangeFuncCalls
import Derived.RangeFuncLeaves
import Derived.Shelf.Abstract
import Derived.Shelf.RegionOpen
import Derived.OwnWalkIn
import Derived.TacticsInMore
import Derived.LoopNIn
import Derived.LoopIn
import Derived.Deep.RegionHeld3
import Derived.Deep.RegionWith
import Derived.Deep.CutRange
import Derived.Deep.DrawnRows
/- The iterators: a set's nodes; a chain's entries. -/
namespace Go.Proofs.Ytlkhmldceekdaaa
open Go.RowKit Go.Shelf
attribute [local go_sem] Oper.semAt_some
set_option linter.unusedVariables false

/-- what a round keeps: one block -/
def KeepB (B : Nat) (W W' : World) : Prop := W'.heap[B]? = W.heap[B]?
theorem keepB_t {B : Nat} {X Y Z : World} (h : KeepB B X Y) (k : KeepB B Y Z) : KeepB B X Z := Eq.trans k h
theorem keepB_b {B : Nat} {w : World} (hB : B < w.heap.size) : ∀ (W : World) (l : Nat) (o o' : Obj), w.heap.size ≤ l → W.heap[l]? = some o → o.isCells = false → o.isWalk = false → KeepB B W (W.putObj l o') :=
  fun _ _ _ _ hl _ _ _ => World.putObj_heap_other (by omega)

theorem has_is (b : Bool) (s : Nat) (hs : s < 128) (n : Int) (w : World) (h : hasS s n = b) :
    Calls Try.prog 41 #[.int .i64 (s : Int), .int .i64 n] w fun e w' => e = .returned (.bool b) ∧ w' = w := by
  rw [← h]; exact has_any s hs n w

abbrev encN (x : Fin 7) : Array Value := #[.int .i64 (x.1 : Int)]

set_option maxRecDepth 100000 in
set_option maxHeartbeats 1000000 in
theorem nodes1_in (n : Nat) (hn : 1 ≤ n) (l Bn s : Nat) (hs : s < 128) (J Jx : List (Fin 7) → World → Prop)
    (hY : ∀ pre x W, J pre W → pre.length < sizeS s → YieldAt Fence.wide (n - 1) Try.prog l (encN x) W fun e W' =>
      (e = .returned (.bool true) ∧ J (pre ++ [x]) W' ∧ KeepB Bn W W') ∨ (e = .returned (.bool false) ∧ Jx (pre ++ [x]) W'))
    (W : World) (hBn : Boxed W Bn 66 (.int .i64 (s : Int))) (h0 : J [] W) :
    CallsIn Fence.wide n Try.prog 44 #[.func (.yield l) #[] #[], .pointer (some ⟨Bn, 0, none⟩)] W fun e W' => (∃ v, e = .returned v) ∧
      ((∃ ys, ys.map Fin.val = listed s ∧ J ys W') ∨ (∃ pre, pre.map Fin.val <+: listed s ∧ Jx pre W')) := by
  refine callsIn_of_wp Try.func44 rfl trivial ?_ rfl
  simp only [Try.ntmps44, List.size_toArray, List.length_cons, List.length_nil, Nat.reduceAdd, Nat.reduceSub, Array.replicate_succ, Array.replicate_zero, List.push_toArray, List.append_toArray, List.nil_append, List.cons_append]
  gi_wp2
  gi_loopw [4] (fun i wr => ∃ (k : Nat) (pre : List (Fin 7)), k ≤ 7 ∧ i = .int .i64 (k : Int) ∧ Hid (pre.map Fin.val = listedTo s k) ∧ J pre wr ∧ Boxed wr Bn 66 (.int .i64 (s : Int)))
    (fun i _ => 7 - (intOf i).toNat)
  case atStart => exact ⟨0, [], by omega, rfl, rfl, h0, hBn⟩
  case round =>
    obtain ⟨k, pre, hk, rfl, hpre, hJ, hbox⟩ := hrel
    have hc := hbox.cell
    by_cases hlt : k < 7
    · have hhas : hasS s (k : Int) = s.testBit k := by simp [hasS]; omega
      have hst := listedTo_succ s k
      cases hb : s.testBit k with
      | true =>
        rw [hb] at hhas
        rw [if_pos hb] at hst
        have hfull : Hid (listedTo s (k + 1) <+: listed s) := by
          show ((List.range (k + 1)).filter _) <+: ((List.range 7).filter _)
          have e : List.range 7 = List.range (k + 1) ++ (List.range (7 - (k + 1))).map (fun i => (k + 1) + i) := by
            rw [← List.range_add]; congr 1; omega
          rw [e, List.filter_append]
          exact List.prefix_append _ _
        have hpl : pre.length < sizeS s := by
          have h1 := hfull.out.length_le
          rw [hst, ← hpre.out] at h1
          simp only [List.length_append, List.length_map, List.length_cons, List.length_nil] at h1
          exact h1
        obtain ⟨fn, tmps, assign, body, hy, hR⟩ := hY pre ⟨k, hlt⟩ wr hJ hpl
        have HST := hide hst
        clear hst hb
        dsimp only [encN] at hy
        gi_wp2_with (refine ⟨trivial, ?_⟩; gi_at_call 41; refine (callsIn_wide.2 (has_is true s hs k _ hhas)).mono ?_; rintro e w' ⟨rfl, rfl⟩)
        refine hR.mono ?_
        rintro e W3 (⟨rfl, hJ3, hk3⟩ | ⟨rfl, hJx3⟩)
        · gi_wp2
          go_roundw
          case rel => exact ⟨k + 1, _, by omega, by go_num, by rw [HST.out, List.map_append, hpre.out]; rfl, hJ3, Eq.trans hk3 hbox⟩
          case measure => simp [intOf]; omega
        · gi_wp2
          refine bodyPost_ret (results_none rfl _ _ _) rfl ?_
          refine ⟨⟨_, rfl⟩, .inr ⟨_, ?_, hJx3⟩⟩
          have e : (pre ++ [(⟨k, hlt⟩ : Fin 7)]).map Fin.val = listedTo s (k + 1) := by rw [HST.out, List.map_append, hpre.out]; rfl
          rw [e]; exact hfull.out
      | false =>
        rw [hb] at hhas
        rw [if_neg (by simp [hb])] at hst
        have HST := hide hst
        clear hst hb
        gi_wp2_with (refine ⟨trivial, ?_⟩; gi_at_call 41; refine (callsIn_wide.2 (has_is false s hs k _ hhas)).mono ?_; rintro e w' ⟨rfl, rfl⟩)
        refine ⟨fun _ h => (by cases h), ?_⟩
        gi_wp2
        go_roundw
        case rel => exact ⟨k + 1, _, by omega, by go_num, by rw [HST.out]; exact hpre.out, hJ, hbox⟩
        case measure => simp [intOf]; omega
    · have HE : Hid (listedTo s k = listed s) := by
        have e : k = 7 := by omega
        rw [e]; rfl
      gi_wp2
      go_end0
      exact ⟨⟨_, rfl⟩, .inl ⟨pre, by rw [hpre.out, HE.out], hJ⟩⟩

/-- **s.Nodes() HANDS BACK A VALUE THAT GOES THROUGH THE SET** -/
theorem nodes_stops (n : Nat) (hn : 1 ≤ n) (Bn s : Nat) (hs : s < 128) (w : World) (hBn : Boxed w Bn 66 (.int .i64 (s : Int))) :
    SeqStopsK Fence.wide n Try.prog 44 #[.pointer (some ⟨Bn, 0, none⟩)] encN (KeepB Bn) (fun ys => ys.map Fin.val = listed s) (fun pre => pre.map Fin.val <+: listed s) (sizeS s) w :=
  fun l J Jx W hW _ _ hY h0 => nodes1_in n hn l Bn s hs J Jx hY W ((hW.block Bn hBn.lt).trans hBn) h0

/-- a chain's entries, by their places -/
abbrev encE (c : ByteArray) {m : Nat} (x : Fin m) : Array Value := #[.int .i64 ((x.1 : Int) + 1), .string (c.extract (x.1 * 3) ((x.1 + 1) * 3))]

theorem blocks_is (m : Nat) (s : ByteArray) (w : World) (hs : s.size ≤ maxLen) (h : s.size / 3 = m) :
    Calls Try.prog 37 #[.string s] w fun e w' => e = .returned (.int .i64 (m : Int)) ∧ w' = w := by
  rw [← h]; exact blocks_any s w hs

set_option maxRecDepth 100000 in
set_option maxHeartbeats 1000000 in
theorem entries1_in (n : Nat) (hn : 1 ≤ n) (l Bn m : Nat) (c : ByteArray) (hc18 : c.size ≤ 18) (hm : c.size / 3 = m) (J Jx : List (Fin m) → World → Prop)
    (hY : ∀ pre x W, J pre W → pre.length < m → YieldAt Fence.wide (n - 1) Try.prog l (encE c x) W fun e W' =>
      (e = .returned (.bool true) ∧ J (pre ++ [x]) W' ∧ KeepB Bn W W') ∨ (e = .returned (.bool false) ∧ Jx (pre ++ [x]) W'))
    (W : World) (hBn : Boxed W Bn 9 (.string c)) (h0 : J [] W) :
    CallsIn Fence.wide n Try.prog 53 #[.func (.yield l) #[] #[], .pointer (some ⟨Bn, 0, none⟩)] W fun e W' => (∃ v, e = .returned v) ∧
      ((∃ ys, ys.map Fin.val = List.range m ∧ J ys W') ∨ (∃ pre, pre.map Fin.val <+: List.range m ∧ Jx pre W')) := by
  have hc0 := hBn.cell
  have hmx : m ≤ 6 := by omega
  have HM := hide hm
  have hm2 : m * 3 ≤ c.size := by omega
  clear hm
  refine callsIn_of_wp Try.func53 rfl trivial ?_ rfl
  simp only [Try.ntmps53, List.size_toArray, List.length_cons, List.length_nil, Nat.reduceAdd, Nat.reduceSub, Array.replicate_succ, Array.replicate_zero, List.push_toArray, List.append_toArray, List.nil_append, List.cons_append]
  gi_wp2_with (refine ⟨trivial, ?_⟩; gi_at_call 37; refine (callsIn_wide.2 (blocks_is m c _ (by unfold maxLen; omega) HM.out)).mono ?_; rintro e w' ⟨rfl, rfl⟩)
  clear hc0
  gi_loopw [6] (fun i wr => ∃ (k : Nat) (pre : List (Fin m)), k ≤ m ∧ i = .int .i64 (k : Int) ∧ Hid (pre.map Fin.val = List.range k) ∧ J pre wr ∧ Boxed wr Bn 9 (.string c))
    (fun i _ => m - (intOf i).toNat)
  case atStart => exact ⟨0, [], by omega, rfl, rfl, h0, hBn⟩
  case round =>
    obtain ⟨k, pre, hk, rfl, hpre, hJ, hbox⟩ := hrel
    have hc := hbox.cell
    by_cases hlt : k < m
    · have hpl : pre.length < m := by
        have h := congrArg List.length hpre.out
        simp only [List.length_map, List.length_range] at h
        omega
      have HP : Hid ((pre ++ [(⟨k, hlt⟩ : Fin m)]).map Fin.val = List.range (k + 1)) := by
        show _ = _
        rw [List.range_succ, ← hpre.out]; simp
      obtain ⟨fn, tmps, assign, body, hy, hR⟩ := hY pre ⟨k, hlt⟩ wr hJ hpl
      have HJ := hide hJ
      clear hJ
      dsimp only [encE] at hy
      gi_wp2
      refine hR.mono ?_
      rintro e W3 (⟨rfl, hJ3, hk3⟩ | ⟨rfl, hJx3⟩)
      · gi_wp2
        go_roundw
        case rel => exact ⟨k + 1, _, by omega, by go_num, HP.out, hJ3, Eq.trans hk3 hbox⟩
        case measure => simp [intOf]; omega
      · gi_wp2
        refine bodyPost_ret (results_none rfl _ _ _) rfl ?_
        refine ⟨⟨_, rfl⟩, .inr ⟨_, ?_, hJx3⟩⟩
        rw [HP.out]
        have e : List.range m = List.range (k + 1) ++ (List.range (m - (k + 1))).map (fun i => (k + 1) + i) := by
          rw [← List.range_add]; congr 1; omega
        rw [e]; exact List.prefix_append _ _
    · have e : k = m := by omega
      have HE := hide e
      clear e
      gi_wp2
      go_end0
      exact ⟨⟨_, rfl⟩, .inl ⟨pre, by rw [hpre.out, HE.out], hJ⟩⟩
theorem entries_stops (n : Nat) (hn : 1 ≤ n) (Bn m : Nat) (c : ByteArray) (hc18 : c.size ≤ 18) (hm : c.size / 3 = m) (w : World) (hBn : Boxed w Bn 9 (.string c)) :
    SeqStopsK Fence.wide n Try.prog 53 #[.pointer (some ⟨Bn, 0, none⟩)] (encE c (m := m)) (KeepB Bn) (fun ys => ys.map Fin.val = List.range m) (fun pre => pre.map Fin.val <+: List.range m) m w :=
  fun l J Jx W hW _ _ hY h0 => entries1_in n hn l Bn m c hc18 hm J Jx hY W ((hW.block Bn hBn.lt).trans hBn) h0
end Go.Proofs.Ytlkhmldceekdaaa

/- chains.nodeAt, moot.Members' own loop. -/
namespace Go.Proofs.Ytlkhmldceekdaaa
open Go.RowKit Go.Shelf
attribute [local go_sem] Oper.semAt_some
set_option linter.unusedVariables false

theorem boxed_keep_set {W : World} {B b : Nat} {t : TypeId} {v : Value} (h : Boxed W B t v) (hne : B ≠ b) (u : Value) : Boxed (W.setCell ⟨b, 0, none⟩ u) B t v :=
  (Below.heap_setCell W ⟨b, 0, none⟩ u B hne).trans h
theorem keepB_set {W : World} {B b : Nat} (hne : B ≠ b) (u : Value) : KeepB B W (W.setCell ⟨b, 0, none⟩ u) := Below.heap_setCell W ⟨b, 0, none⟩ u B hne
theorem boxed_own' {β : Type} (B : Nat) (t : TypeId) (f : β → Value) : Own (fun (s : β) W => Boxed W B t (f s)) := by
  rintro s X Y row hv hg hrow
  refine hv.kept hg (fun e' => ?_)
  obtain ⟨o, ho, hc⟩ := hrow B e'.symm
  rw [show X.heap[B]? = _ from hv] at ho; cases ho; cases hc
theorem boxed_put {W : World} {B l : Nat} {t : TypeId} {v : Value} {o : Obj} (h : Boxed W B t v) (o' : Obj) (hl : W.heap[l]? = some o) (ho : o.isCells = false) : Boxed (W.putObj l o') B t v :=
  Own.putObj (boxed_own' B t (fun _ : Unit => v)) o' (s := ()) h hl ho

set_option maxRecDepth 100000 in
set_option maxHeartbeats 2000000 in
theorem nodeAt_any (s p : Nat) (hs : s < 128) (hp : p < sizeS s) (w : World) :
    Calls Try.prog 61 #[.int .i64 (s : Int), .int .i64 (p : Int)] w fun e w' => e = .returned (.int .i64 (((listed s).getD p 0 : Nat) : Int)) ∧ Below w.heap.size w w' := by
  have hp7 : sizeS s ≤ 7 := sizeS_le
  refine (callsIn_wide (n := 6)).1 ?_
  refine callsIn_of_wp_marks Try.func61 rfl trivial ?_ rfl
  simp only [Try.ntmps61, List.size_toArray, List.length_cons, List.length_nil, Nat.reduceAdd, Nat.reduceSub, Array.replicate_succ, Array.replicate_zero, List.push_toArray, List.append_toArray, List.nil_append, List.cons_append]
  gi_wp2_with (refine ⟨trivial, ?_⟩; gi_at_call 24; refine (callsIn_wide.2 (nodes_any _ _)).mono ?_; rintro e w' ⟨rfl, rfl⟩)
  have b0 := Boxed.new w 3 (.int .i64 (p : Int))
  have b1 := Boxed.new (w.alloc (.cells #[.int .i64 (p : Int)] 3)) 3 (.int .i64 0)
  have b2 := Boxed.new ((w.alloc (.cells #[.int .i64 (p : Int)] 3)).alloc (.cells #[.int .i64 0] 3)) 66 (.int .i64 (s : Int))
  simp only [World.size_alloc] at b1 b2
  have hB0 : Below w.heap.size w (((w.alloc (.cells #[.int .i64 (p : Int)] 3)).alloc (.cells #[.int .i64 0] 3)).alloc (.cells #[.int .i64 (s : Int)] 66)) := (((Below.refl _ w).alloc (Nat.le_refl _) _).alloc (by simp) _).alloc (by simp; omega) _
  refine wpIn_rangeFunc_ownG rfl (by omega) (gf := 44) (lb := #[.pointer (some ⟨w.heap.size + 1 + 1, 0, none⟩)]) rfl trivial (enters_of Try.func44 (by kernel_rfl) rfl)
    (nodes_stops 5 (by omega) (w.heap.size + 1 + 1) s hs _ b2) keepB_t (keepB_b (by simp)) (Below.refl _ _) (fun _ => rfl)
    (fun pre W => ((pre.length ≤ p ∧ Boxed W w.heap.size 3 (.int .i64 ((p : Int) - (pre.length : Int)))) ∧ Boxed W (w.heap.size + 1) 3 (.int .i64 0)) ∧ Below w.heap.size w W)
    (fun c pre W => (c = .ret ∧ ∃ x : Fin 7, pre[p]? = some x ∧ Boxed W (w.heap.size + 1) 3 (.int .i64 (x.1 : Int))) ∧ Below w.heap.size w W)
    (OwnFrom.and (Own.from (fun s A B row hs hg hr => ⟨⟨hs.1.1, boxed_own' _ _ (fun pre : List (Fin 7) => Value.int .i64 ((p : Int) - (pre.length : Int))) s A B row hs.1.2 hg hr⟩, boxed_own' _ _ (fun _ : List (Fin 7) => Value.int .i64 0) s A B row hs.2 hg hr⟩) _) (ownFrom_below (Nat.le_refl _) (by simp; omega)))
    (fun c => OwnFrom.and (Own.from (fun s A B row hs hg hr => by
      obtain ⟨h1, x, h2, h3⟩ := hs
      exact ⟨h1, x, h2, boxed_own' _ _ (fun _ : Unit => Value.int .i64 (x.1 : Int)) () A B row h3 hg hr⟩) _) (ownFrom_below (Nat.le_refl _) (by simp; omega)))
    ⟨⟨⟨by simp, by simpa using (b0.alloc _).alloc _⟩, b1.alloc _⟩, hB0⟩
    (fun x => { tmps := #[.int .i64 (s : Int), .int .i64 (p : Int), undef, .pointer (some ⟨w.heap.size, 0, none⟩), .pointer (some ⟨w.heap.size + 1, 0, none⟩), .int .i64 (x.1 : Int), .int .i64 (s : Int), .func (.func 44) #[] #[.pointer (some ⟨w.heap.size + 1 + 1, 0, none⟩)], .int .i64 (x.1 : Int), undef, undef, undef, undef, undef], defers := [] }) ?assign ?body ?done ?stop
  case assign =>
    intro l x W K hK
    gi_wp2
    exact hK
  case body =>
    rintro l pre x W ⟨⟨⟨hle, hb0⟩, hb1⟩, hB⟩ hlt
    have hc0 := hb0.cell
    have hf0 := hb0.frozen
    have hc1 := hb1.cell
    have hf1 := hb1.frozen
    by_cases hz : pre.length = p
    · have hzB : ((p : Int) - (pre.length : Int) == 0) = true := by simp; omega
      have HZ := hide hz
      clear hz
      gi_wp2
      refine ⟨(KeepsOthers.setCell _ _ _).from _, ⟨rfl, x, ?_, hb1.set _⟩, hB.setCell (p := ⟨w.heap.size + 1, 0, none⟩) (by simp) _⟩
      rw [← HZ.out]; simp
    · have hzB : ((p : Int) - (pre.length : Int) == 0) = false := by simp; omega
      gi_wp2
      refine ⟨(KeepsOthers.setCell _ _ _).from _, keepB_set (by omega) _, ⟨⟨by simp; omega, ?_⟩, boxed_keep_set hb1 (by omega) _⟩, hB.setCell (p := ⟨w.heap.size, 0, none⟩) (by simp) _⟩
      have e : (p : Int) - ((pre ++ [x]).length : Int) = (p : Int) - (pre.length : Int) - 1 := by simp; omega
      rw [e]
      exact hb0.set _
  case done =>
    rintro D ys W hD hys ⟨⟨⟨hle, _⟩, _⟩, _⟩ hK
    have h := congrArg List.length hys
    rw [List.length_map] at h
    have h2 : sizeS s = (listed s).length := rfl
    omega
  case stop =>
    rintro D c pre W hD hpre ⟨⟨rfl, x, hx, hb1⟩, hB⟩ hK
    gi_wp2
    refine ⟨by simp, .inl ⟨_, _, rfl, run_takeDeferred hK, ?_⟩⟩
    have hc5 := (boxed_put hb1 (.deferred none) hK rfl).cell
    have hx2 : (listed s)[p]? = some x.1 := by
      obtain ⟨r, hr⟩ := hpre
      rw [← hr, List.getElem?_append_left, List.getElem?_map, hx]
      · rfl
      · rw [List.length_map]; exact (List.getElem?_eq_some_iff.1 hx).1
    refine ⟨.int .i64 (x.1 : Int), ?_, ret_int (by rw [List.getD_eq_getElem?_getD, hx2]; rfl), hB.trans (belowK_b (w := w) (Nat.le_refl _) W D _ _ (by simp at hD; omega) hK rfl rfl)⟩
    simp [results, Try.f61, go_sem, hc5]
end Go.Proofs.Ytlkhmldceekdaaa

/- chains.voters. -/
namespace Go.Proofs.Ytlkhmldceekdaaa
open Go.RowKit Go.Shelf
set_option linter.unusedVariables false

/-- a block's cells, and those of several -/
def blkCells (b : Blk) : List Value := [.int .i64 (b.1 : Int), .int .u8 (b.2.1 : Int), .int .i64 (b.2.2 : Int)]
def rowCells : List Blk → List Value
  | [] => []
  | b :: r => blkCells b ++ rowCells r
theorem rowCells_len : ∀ l, (rowCells l).length = l.length * 3
  | [] => rfl
  | b :: r => by simp [rowCells, blkCells, rowCells_len r]; omega
theorem rowCells_snoc : ∀ (l : List Blk) (b : Blk), rowCells (l ++ [b]) = rowCells l ++ blkCells b
  | [], b => by simp [rowCells]
  | a :: r, b => by simp [rowCells, rowCells_snoc r b]
theorem rowCells_at : ∀ (l : List Blk) (k i : Nat) (hk : k < l.length) (hi : i < 3), (rowCells l)[k * 3 + i]? = (blkCells l[k])[i]?
  | [], k, i, hk, _ => by simp at hk
  | b :: r, 0, i, hk, hi => by
    simp only [rowCells, Nat.zero_mul, Nat.zero_add, List.getElem_cons_zero]
    exact List.getElem?_append_left (by simpa [blkCells] using hi)
  | b :: r, k + 1, i, hk, hi => by
    have h := rowCells_at r k i (by simpa using hk) hi
    simp only [rowCells, List.getElem_cons_succ]
    rw [← h, List.getElem?_append_right (by simp [blkCells]; omega)]
    congr 1
    simp [blkCells]
    omega
theorem votesS_snoc (b : Blk) (sign node : Nat) : ∀ (r : List Blk) (acc : Nat), votesS (r ++ [b]) sign node acc =
    (if b.2.1 = sign ∧ b.2.2 = node then withS (votesS r sign node acc) b.1 else votesS r sign node acc)
  | [], _ => rfl
  | _ :: r, acc => votesS_snoc b sign node r _
theorem votesS_take {ep : List Blk} {k sign node : Nat} (hk : k < ep.length) : votesS (ep.take (k + 1)) sign node 0 =
    (if ep[k].2.1 = sign ∧ ep[k].2.2 = node then withS (votesS (ep.take k) sign node 0) ep[k].1 else votesS (ep.take k) sign node 0) := by
  rw [List.take_succ_eq_append_getElem hk, votesS_snoc]

/-- a slice of blocks of the call's own -/
def OwnBlks (w : World) (base : Nat) (v : Value) (l : List Blk) : Prop := w.ownsRow base 88 3 v l.length (rowCells l)
theorem OwnBlks.slice {w : World} {base : Nat} {v : Value} {l : List Blk} (h : OwnBlks w base v l) : ∃ ao cap, v = .slice ao l.length cap := by
  rcases h.2 with ⟨rfl, h0⟩ | ⟨g, cap, cur, rfl, _⟩
  · exact ⟨none, 0, by rw [h0]⟩
  · exact ⟨_, _, rfl⟩
theorem OwnBlks.at {w : World} {base n cap : Nat} {ao : Option Addr} {l : List Blk} (h : OwnBlks w base (.slice ao n cap) l) (hl : 0 < l.length) :
    ∃ g, ao = some ⟨g, 0, none⟩ ∧ g < w.heap.size ∧ ∀ k i, k < l.length → i < 3 → w.cell? ⟨g, k * 3 + i, none⟩ = (rowCells l)[k * 3 + i]? := by
  have h' := h
  rcases h.2 with ⟨_, h0⟩ | ⟨g, cap', cur, e, hg, hh, _⟩
  · omega
  · injection e with e1 e2 e3
    subst e1 e2
    exact ⟨g, rfl, lt_of_block hh, fun k i hk hi => World.ownsRow.cellAt h' _ (by omega)⟩

set_option maxRecDepth 100000 in
set_option maxHeartbeats 1000000 in
theorem voters_any (ep : List Blk) (base : Nat) (v : Value) (sign node : Nat) (w : World) (hv : OwnBlks w base v ep) (hb : ∀ b ∈ ep, b.1 < 7) (hlen : ep.length ≤ 6) (hg : sign < 256) (hn : node < 7) :
    Calls Try.prog 56 #[v, .int .u8 (sign : Int), .int .i64 (node : Int)] w fun e w' => e = .returned (.int .i64 (votesS ep sign node 0 : Nat)) ∧ Below w.heap.size w w' := by
  obtain ⟨ao, cap, rfl⟩ := hv.slice
  by_cases h0 : 0 < ep.length
  · obtain ⟨g, rfl, hgl, hcell⟩ := hv.at h0
    have HC := hide hcell
    have HB := hide hb
    clear hcell hb hv
    go_enter Try.func56, Try.ntmps56
    go_wp2
    go_loopw [7, 12] (fun x i wr => ∃ (k : Nat), k ≤ ep.length ∧ i = .int .i64 (k : Int) ∧ x = .int .i64 (votesS (ep.take k) sign node 0 : Nat) ∧ Below w.heap.size w wr) (fun _ i _ => ep.length - (intOf i).toNat)
    case atStart => exact ⟨0, by omega, rfl, rfl, Below.refl _ _⟩
    case round =>
      obtain ⟨k, hk, rfl, rfl, hB⟩ := hrel
      have hlt128 := votesS_lt (ep.take k) sign node (fun b hb' => HB.out b (List.mem_of_mem_take hb'))
      have hsz := hB.size
      by_cases hlt : k < ep.length
      · have hst := votesS_take (sign := sign) (node := node) hlt
        have hm7 := HB.out ep[k] (List.getElem_mem hlt)
        have cell : ∀ i, i < 3 → wr.cell? ⟨g, k * 3 + i, none⟩ = (blkCells ep[k])[i]? := fun i hi => by
          rw [hB.cell (p := ⟨g, k * 3 + i, none⟩) hgl, HC.out k i hlt hi, rowCells_at ep k i hlt hi]
        have c0 := cell 0 (by omega)
        have c1 := cell 1 (by omega)
        have c2 := cell 2 (by omega)
        obtain ⟨⟨m, sg, ab⟩, hbk⟩ : ∃ b, ep[k] = b := ⟨_, rfl⟩
        rw [hbk] at hst hm7 c0 c1 c2
        simp only [blkCells, List.getElem?_cons_zero, List.getElem?_cons_succ, Nat.add_zero] at c0 c1 c2 hst hm7
        clear cell hbk
        have HST := hide hst
        clear hst
        go_wp2_with (go_at_call 57; refine (with_any _ m hlt128 hm7 _).mono ?_; rintro e w' ⟨rfl, rfl⟩)
        · have h1 : (sg : Int) = (sign : Int) := by assumption
          have h2 : ((ab : Int) == (node : Int)) = true := by assumption
          have h3 : sg = sign ∧ ab = node := ⟨by omega, by have := eq_of_beq h2; omega⟩
          go_roundw
          case rel => exact ⟨k + 1, by omega, by go_num, by rw [HST.out, if_pos h3], hB.alloc hsz _⟩
          case measure => simp [intOf]; omega
        · have h2 : ((ab : Int) == (node : Int)) = false := by assumption
          have h3 : ¬ (sg = sign ∧ ab = node) := by rintro ⟨_, e⟩; rw [e] at h2; simp at h2
          go_roundw
          case rel => exact ⟨k + 1, by omega, by go_num, by rw [HST.out, if_neg h3], hB.alloc hsz _⟩
          case measure => simp [intOf]; omega
        · have h1 : ¬ (sg : Int) = (sign : Int) := by assumption
          have h3 : ¬ (sg = sign ∧ ab = node) := by rintro ⟨e, _⟩; exact h1 (by rw [e])
          go_roundw
          case rel => exact ⟨k + 1, by omega, by go_num, by rw [HST.out, if_neg h3], hB.alloc hsz _⟩
          case measure => simp [intOf]; omega
      · have HT : Hid (ep.take k = ep) := List.take_of_length_le (by omega)
        go_wp2
        go_ret
        exact ⟨ret_int (by rw [HT.out]), hB⟩
  · have he : ep = [] := List.length_eq_zero_iff.1 (by omega)
    subst he
    go_enter Try.func56, Try.ntmps56
    go_wp2
    refine wp_loop_rounds 1 ?_
    rw [rounds_succ]
    go_wp2
    go_ret
    exact ⟨rfl, Below.refl _ _⟩
theorem voters_is (sgn : Int) (a : Nat) (ep : List Blk) (base : Nat) (v : Value) (sign node : Nat) (w : World) (hsg : sgn = (sign : Int)) (hv : OwnBlks w base v ep) (hb : ∀ b ∈ ep, b.1 < 7) (hlen : ep.length ≤ 6) (hg : sign < 256) (hn : node < 7) (h : votesS ep sign node 0 = a) :
    Calls Try.prog 56 #[v, .int .u8 sgn, .int .i64 (node : Int)] w fun e w' => e = .returned (.int .i64 (a : Int)) ∧ Below w.heap.size w w' := by
  rw [← h, hsg]; exact voters_any ep base v sign node w hv hb hlen hg hn
theorem size_is (a s : Nat) (h : s < 128) (w : World) (ha : sizeS s = a) :
    Calls Try.prog 23 #[.int .i64 (s : Int)] w fun e w' => e = .returned (.int .i64 (a : Int)) ∧ w' = w := by
  rw [← ha]; exact size_any s h w
end Go.Proofs.Ytlkhmldceekdaaa

/- chains.count. -/
namespace Go.Proofs.Ytlkhmldceekdaaa
open Go.RowKit Go.Shelf
attribute [local go_sem] Oper.semAt_some
set_option linter.unusedVariables false

theorem keepsOthers_of_below {W W' : World} (h : Below W.heap.size W W') : KeepsOthers W W' := ⟨h.size, fun k _ hk _ => (h.block k (lt_of_block hk)).trans hk⟩
theorem boxed_below {W W' : World} {B : Nat} {t : TypeId} {v : Value} (h : Boxed W B t v) (hb : Below W.heap.size W W') : Boxed W' B t v := (hb.block B h.lt).trans h
theorem keepB_below {W W' : World} {B : Nat} (hB : B < W.heap.size) (hb : Below W.heap.size W W') : KeepB B W W' := hb.block B hB

def foldS (ep : List Blk) (s : Nat) (l : List (Fin 7)) : Nat := l.foldl (fun s x => stepS ep s x.1) s
theorem foldS_snoc (ep : List Blk) (s : Nat) (l : List (Fin 7)) (x : Fin 7) : foldS ep s (l ++ [x]) = stepS ep (foldS ep s l) x.1 := by simp [foldS]
theorem foldS_lt {ep : List Blk} {s : Nat} (hs : s < 128) (l : List (Fin 7)) : foldS ep s l < 128 := by
  unfold foldS
  induction l generalizing s with
  | nil => exact hs
  | cons x r ih => exact ih (stepS_lt hs x.2)
theorem foldS_all {ep : List Blk} {s : Nat} {l : List (Fin 7)} (h : l.map Fin.val = listed 127) : foldS ep s l = countS ep s := by
  have h1 : foldS ep s l = (l.map Fin.val).foldl (stepS ep) s := by unfold foldS; rw [List.foldl_map]
  rw [h1, h, show listed 127 = [0, 1, 2, 3, 4, 5, 6] by decide]
  rfl

set_option maxRecDepth 100000 in
set_option maxHeartbeats 2000000 in
theorem count_any (ep : List Blk) (base s0 : Nat) (v : Value) (w : World) (hs : s0 < 128) (hv : OwnBlks w base v ep) (hb : ∀ b ∈ ep, b.1 < 7) (hlen : ep.length ≤ 6) :
    Calls Try.prog 42 #[.int .i64 (s0 : Int), v] w fun e w' => e = .returned (.int .i64 (countS ep s0 : Nat)) ∧ Below w.heap.size w w' := by
  obtain ⟨ao, cap, rfl⟩ := hv.slice
  refine (callsIn_wide (n := 6)).1 ?_
  refine callsIn_of_wp_marks Try.func42 rfl trivial ?_ rfl
  simp only [Try.ntmps42, List.size_toArray, List.length_cons, List.length_nil, Nat.reduceAdd, Nat.reduceSub, Array.replicate_succ, Array.replicate_zero, List.push_toArray, List.append_toArray, List.nil_append, List.cons_append]
  gi_wp2_with (refine ⟨trivial, ?_⟩; gi_at_call 24; refine (callsIn_wide.2 (nodes_any _ _)).mono ?_; rintro e w' ⟨rfl, rfl⟩)
  have b0 := Boxed.new w 66 (.int .i64 (s0 : Int))
  have b1 := Boxed.new (w.alloc (.cells #[.int .i64 (s0 : Int)] 66)) 83 (.slice ao ep.length cap)
  have b2 := Boxed.new ((w.alloc (.cells #[.int .i64 (s0 : Int)] 66)).alloc (.cells #[.slice ao ep.length cap] 83)) 66 (.int .i64 127)
  simp only [World.size_alloc] at b1 b2
  have hB0 : Below w.heap.size w (((w.alloc (.cells #[.int .i64 (s0 : Int)] 66)).alloc (.cells #[.slice ao ep.length cap] 83)).alloc (.cells #[.int .i64 127] 66)) := (((Below.refl _ w).alloc (Nat.le_refl _) _).alloc (by simp) _).alloc (by simp; omega) _
  refine wpIn_rangeFunc_ownG rfl (by omega) (gf := 44) (lb := #[.pointer (some ⟨w.heap.size + 1 + 1, 0, none⟩)]) rfl trivial (enters_of Try.func44 (by kernel_rfl) rfl)
    (nodes_stops 5 (by omega) (w.heap.size + 1 + 1) 127 (by omega) _ b2) keepB_t (keepB_b (by simp)) (Below.refl _ _) (fun _ => rfl)
    (fun pre W => (Boxed W w.heap.size 66 (.int .i64 (foldS ep s0 pre : Nat)) ∧ Boxed W (w.heap.size + 1) 83 (.slice ao ep.length cap) ∧ w.heap.size + 1 + 1 < W.heap.size) ∧ Below w.heap.size w W)
    (fun _ _ _ => False)
    (OwnFrom.and (Own.from (fun s A B row hs hg hr => ⟨boxed_own' _ _ (fun pre : List (Fin 7) => Value.int .i64 (foldS ep s0 pre : Nat)) s A B row hs.1 hg hr, boxed_own' _ _ (fun _ : List (Fin 7) => Value.slice ao ep.length cap) s A B row hs.2.1 hg hr, Nat.lt_of_lt_of_le hs.2.2 hg.size⟩) _) (ownFrom_below (Nat.le_refl _) (by simp; omega)))
    (fun _ _ _ _ _ hs _ _ => hs)
    ⟨⟨(b0.alloc _).alloc _, b1.alloc _, by simp⟩, hB0⟩
    (fun x => { tmps := #[.int .i64 (s0 : Int), .slice ao ep.length cap, .pointer (some ⟨w.heap.size, 0, none⟩), .pointer (some ⟨w.heap.size + 1, 0, none⟩), .int .i64 0, .int .i64 (x.1 : Int), .func (.func 44) #[] #[.pointer (some ⟨w.heap.size + 1 + 1, 0, none⟩)], .int .i64 (x.1 : Int), undef, undef, undef, undef, undef, undef, undef, undef, undef, undef, undef, undef, undef, undef, undef, undef, undef, undef, undef, undef, undef, undef, undef, undef, undef, undef, undef, undef, undef], defers := [] }) ?assign ?body ?done ?stop
  case assign =>
    intro l x W K hK
    gi_wp2
    exact hK
  case body =>
    rintro l pre x W ⟨⟨hb0, hb1, hsz⟩, hB⟩ hlt
    have hown := show OwnBlks W base _ ep from ownsRow_below hv hB
    have hst := foldS_snoc ep s0 pre x
    have hs128 := foldS_lt (ep := ep) hs pre
    obtain ⟨s, hse⟩ : ∃ s, foldS ep s0 pre = s := ⟨_, rfl⟩
    rw [hse] at hb0 hst hs128
    have hx7 := x.2
    have hva := votes_eq ep 43 x.1 hb
    have hva2 := votesS_lt ep 43 x.1 hb
    obtain ⟨va, hvae⟩ : ∃ va, votesS ep 43 x.1 0 = va := ⟨_, rfl⟩
    rw [hvae] at hva hva2
    have hvc := votes_eq ep 45 x.1 hb
    have hvc2 := votesS_lt ep 45 x.1 hb
    obtain ⟨vc, hvce⟩ : ∃ vc, votesS ep 45 x.1 0 = vc := ⟨_, rfl⟩
    rw [hvce] at hvc hvc2
    obtain ⟨a, hae⟩ : ∃ a, votes ep 43 x.1 = a := ⟨_, rfl⟩
    obtain ⟨c, hce⟩ : ∃ c, votes ep 45 x.1 = c := ⟨_, rfl⟩
    obtain ⟨z, hze⟩ : ∃ z, sizeS s = z := ⟨_, rfl⟩
    rw [hae] at hva
    rw [hce] at hvc
    have hst2 : foldS ep s0 (pre ++ [x]) = if 2 ≤ a then withS s x.1 else if 2 ≤ c ∧ s.testBit x.1 = true ∧ 4 < z then withoutS s x.1 else s := by
      rw [hst, stepS, hae, hce, hze]
    have hhas : hasS s (x.1 : Int) = s.testBit x.1 := by
      have h7 : ((x.1 : Int) < 7) := by omega
      simp [hasS, h7]
    obtain ⟨b, hbe⟩ : ∃ b, s.testBit x.1 = b := ⟨_, rfl⟩
    rw [hbe] at hst2 hhas
    have HVA := hide hva
    have HVC := hide hvc
    have HVAE := hide hvae
    have HVCE := hide hvce
    have HZE := hide hze
    have HHAS := hide hhas
    have HBL := hide hb
    obtain ⟨xv, hxv⟩ : ∃ xv, x.1 = xv := ⟨_, rfl⟩
    rw [hxv] at hx7 hst2 HVAE HVCE HHAS ⊢
    clear hst hva hvc hvae hvce hae hce hze hhas hbe hse hxv hb
    have hc0 := hb0.cell
    have hc1 := hb1.cell
    by_cases h1 : 2 ≤ a
    · rw [if_pos h1] at hst2
      have HST := hide hst2
      clear hst2
      gi_wp2_with fail
      refine ⟨trivial, ?_⟩
      refine (CallsIn.inRound l (callsIn_wide.2 (voters_is 43 va ep base _ 43 xv _ rfl hown HBL.out hlen (by omega) hx7 HVAE.out))).mono ?_
      rintro e W1 ⟨rfl, hbel⟩
      have hb01 := boxed_below hb0 hbel
      have hc01 := hb01.cell
      have hf01 := hb01.frozen
      have hb11 := boxed_below hb1 hbel
      have hsz1 := hbel.size
      gi_wp2_with (first
        | (refine ⟨trivial, ?_⟩; gi_at_call 23; refine (CallsIn.inRound l (callsIn_wide.2 (size_is a va hva2 _ HVA.out))).mono ?_; rintro e w' ⟨rfl, rfl⟩)
        | (refine ⟨trivial, ?_⟩; gi_at_call 57; refine (CallsIn.inRound l (callsIn_wide.2 (with_any s xv hs128 hx7 _))).mono ?_; rintro e w' ⟨rfl, rfl⟩))
      exact ⟨((keepsOthers_of_below hbel).trans (KeepsOthers.setCell _ _ _)).from _, keepB_t (keepB_below (by omega) hbel) (keepB_set (by omega) _), ⟨by rw [HST.out]; exact hb01.set _, boxed_keep_set hb11 (by omega) _, Nat.lt_of_lt_of_le (by omega) (KeepsWalks.setCell _ _ _).size⟩, (hB.trans (hbel.mono hB.size)).setCell (p := ⟨w.heap.size, 0, none⟩) (Nat.le_refl _) _⟩
    · rw [if_neg h1] at hst2
      by_cases h2 : 2 ≤ c
      · cases b with
        | true =>
          by_cases h3 : 4 < z
          · rw [if_pos ⟨h2, rfl, h3⟩] at hst2
            have HST := hide hst2
            clear hst2
            gi_wp2_with fail
            refine ⟨trivial, ?_⟩
            refine (CallsIn.inRound l (callsIn_wide.2 (voters_is 43 va ep base _ 43 xv _ rfl hown HBL.out hlen (by omega) hx7 HVAE.out))).mono ?_
            rintro e W1 ⟨rfl, hbel⟩
            have hb01 := boxed_below hb0 hbel
            have hb11 := boxed_below hb1 hbel
            have hc11 := hb11.cell
            have hown1 := show OwnBlks W1 base _ ep from ownsRow_below hown hbel
            have hsz1 := hbel.size
            gi_wp2_with (refine ⟨trivial, ?_⟩; gi_at_call 23; refine (CallsIn.inRound l (callsIn_wide.2 (size_is a va hva2 _ HVA.out))).mono ?_; rintro e w' ⟨rfl, rfl⟩)
            refine ⟨trivial, ?_⟩
            refine (CallsIn.inRound l (callsIn_wide.2 (voters_is 45 vc ep base _ 45 xv _ rfl hown1 HBL.out hlen (by omega) hx7 HVCE.out))).mono ?_
            rintro e W2 ⟨rfl, hbel2⟩
            have hb02 := boxed_below hb01 hbel2
            have hb12 := boxed_below hb11 hbel2
            have hc02 := hb02.cell
            have hf02 := hb02.frozen
            have hsz2 := hbel2.size
            have hbe3 := hbel.trans (hbel2.mono hsz1)
            clear hbel hbel2 hb01 hb11 hc11 hown1 hown hc0 hc1
            gi_wp2_with (refine ⟨trivial, ?_⟩; gi_at_call 23; refine (CallsIn.inRound l (callsIn_wide.2 (size_is c vc hvc2 _ HVC.out))).mono ?_; rintro e w' ⟨rfl, rfl⟩)
            gi_wp2_with (refine ⟨trivial, ?_⟩; gi_at_call 41; refine (CallsIn.inRound l (callsIn_wide.2 (has_is true s hs128 xv _ HHAS.out))).mono ?_; rintro e w' ⟨rfl, rfl⟩)
            gi_wp2_with (first | (refine ⟨trivial, ?_⟩; gi_at_call 23; refine (CallsIn.inRound l (callsIn_wide.2 (size_is z s hs128 _ HZE.out))).mono ?_; rintro e w' ⟨rfl, rfl⟩) | (refine ⟨trivial, ?_⟩; gi_at_call 58; refine (CallsIn.inRound l (callsIn_wide.2 (without_any s xv hs128 hx7 _))).mono ?_; rintro e w' ⟨rfl, rfl⟩))
            exact ⟨((keepsOthers_of_below hbe3).trans (KeepsOthers.setCell _ _ _)).from _, keepB_t (keepB_below (by omega) hbe3) (keepB_set (by omega) _), ⟨by rw [HST.out]; exact hb02.set _, boxed_keep_set hb12 (by omega) _, Nat.lt_of_lt_of_le (by omega) (KeepsWalks.setCell _ _ _).size⟩, (hB.trans (hbe3.mono hB.size)).setCell (p := ⟨w.heap.size, 0, none⟩) (Nat.le_refl _) _⟩
          · rw [if_neg (by rintro ⟨_, _, h⟩; exact h3 h)] at hst2
            have HST := hide hst2
            clear hst2
            gi_wp2_with fail
            refine ⟨trivial, ?_⟩
            refine (CallsIn.inRound l (callsIn_wide.2 (voters_is 43 va ep base _ 43 xv _ rfl hown HBL.out hlen (by omega) hx7 HVAE.out))).mono ?_
            rintro e W1 ⟨rfl, hbel⟩
            have hb01 := boxed_below hb0 hbel
            have hb11 := boxed_below hb1 hbel
            have hc11 := hb11.cell
            have hown1 := show OwnBlks W1 base _ ep from ownsRow_below hown hbel
            have hsz1 := hbel.size
            gi_wp2_with (refine ⟨trivial, ?_⟩; gi_at_call 23; refine (CallsIn.inRound l (callsIn_wide.2 (size_is a va hva2 _ HVA.out))).mono ?_; rintro e w' ⟨rfl, rfl⟩)
            refine ⟨trivial, ?_⟩
            refine (CallsIn.inRound l (callsIn_wide.2 (voters_is 45 vc ep base _ 45 xv _ rfl hown1 HBL.out hlen (by omega) hx7 HVCE.out))).mono ?_
            rintro e W2 ⟨rfl, hbel2⟩
            have hb02 := boxed_below hb01 hbel2
            have hb12 := boxed_below hb11 hbel2
            have hc02 := hb02.cell
            have hf02 := hb02.frozen
            have hsz2 := hbel2.size
            have hbe3 := hbel.trans (hbel2.mono hsz1)
            clear hbel hbel2 hb01 hb11 hc11 hown1 hown hc0 hc1
            gi_wp2_with (refine ⟨trivial, ?_⟩; gi_at_call 23; refine (CallsIn.inRound l (callsIn_wide.2 (size_is c vc hvc2 _ HVC.out))).mono ?_; rintro e w' ⟨rfl, rfl⟩)
            gi_wp2_with (refine ⟨trivial, ?_⟩; gi_at_call 41; refine (CallsIn.inRound l (callsIn_wide.2 (has_is true s hs128 xv _ HHAS.out))).mono ?_; rintro e w' ⟨rfl, rfl⟩)
            gi_wp2_with (refine ⟨trivial, ?_⟩; gi_at_call 23; refine (CallsIn.inRound l (callsIn_wide.2 (size_is z s hs128 _ HZE.out))).mono ?_; rintro e w' ⟨rfl, rfl⟩)
            exact ⟨(keepsOthers_of_below hbe3).from _, keepB_below (by omega) hbe3, ⟨by rw [HST.out]; exact hb02, hb12, by omega⟩, hB.trans (hbe3.mono hB.size)⟩
        | false =>
          rw [if_neg (by rintro ⟨_, h, _⟩; cases h)] at hst2
          have HST := hide hst2
          clear hst2
          gi_wp2_with fail
          refine ⟨trivial, ?_⟩
          refine (CallsIn.inRound l (callsIn_wide.2 (voters_is 43 va ep base _ 43 xv _ rfl hown HBL.out hlen (by omega) hx7 HVAE.out))).mono ?_
          rintro e W1 ⟨rfl, hbel⟩
          have hb01 := boxed_below hb0 hbel
          have hb11 := boxed_below hb1 hbel
          have hc11 := hb11.cell
          have hown1 := show OwnBlks W1 base _ ep from ownsRow_below hown hbel
          have hsz1 := hbel.size
          gi_wp2_with (refine ⟨trivial, ?_⟩; gi_at_call 23; refine (CallsIn.inRound l (callsIn_wide.2 (size_is a va hva2 _ HVA.out))).mono ?_; rintro e w' ⟨rfl, rfl⟩)
          refine ⟨trivial, ?_⟩
          refine (CallsIn.inRound l (callsIn_wide.2 (voters_is 45 vc ep base _ 45 xv _ rfl hown1 HBL.out hlen (by omega) hx7 HVCE.out))).mono ?_
          rintro e W2 ⟨rfl, hbel2⟩
          have hb02 := boxed_below hb01 hbel2
          have hb12 := boxed_below hb11 hbel2
          have hc02 := hb02.cell
          have hf02 := hb02.frozen
          have hsz2 := hbel2.size
          have hbe3 := hbel.trans (hbel2.mono hsz1)
          clear hbel hbel2 hb01 hb11 hc11 hown1 hown hc0 hc1
          gi_wp2_with (refine ⟨trivial, ?_⟩; gi_at_call 23; refine (CallsIn.inRound l (callsIn_wide.2 (size_is c vc hvc2 _ HVC.out))).mono ?_; rintro e w' ⟨rfl, rfl⟩)
          gi_wp2_with (refine ⟨trivial, ?_⟩; gi_at_call 41; refine (CallsIn.inRound l (callsIn_wide.2 (has_is false s hs128 xv _ HHAS.out))).mono ?_; rintro e w' ⟨rfl, rfl⟩)
          refine ⟨trivial, ?_⟩
          gi_wp2
          exact ⟨(keepsOthers_of_below hbe3).from _, keepB_below (by omega) hbe3, ⟨by rw [HST.out]; exact hb02, hb12, by omega⟩, hB.trans (hbe3.mono hB.size)⟩
      · rw [if_neg (by rintro ⟨h, _⟩; exact h2 h)] at hst2
        have HST := hide hst2
        clear hst2
        gi_wp2_with fail
        refine ⟨trivial, ?_⟩
        refine (CallsIn.inRound l (callsIn_wide.2 (voters_is 43 va ep base _ 43 xv _ rfl hown HBL.out hlen (by omega) hx7 HVAE.out))).mono ?_
        rintro e W1 ⟨rfl, hbel⟩
        have hb01 := boxed_below hb0 hbel
        have hb11 := boxed_below hb1 hbel
        have hc11 := hb11.cell
        have hown1 := show OwnBlks W1 base _ ep from ownsRow_below hown hbel
        have hsz1 := hbel.size
        gi_wp2_with (refine ⟨trivial, ?_⟩; gi_at_call 23; refine (CallsIn.inRound l (callsIn_wide.2 (size_is a va hva2 _ HVA.out))).mono ?_; rintro e w' ⟨rfl, rfl⟩)
        refine ⟨trivial, ?_⟩
        refine (CallsIn.inRound l (callsIn_wide.2 (voters_is 45 vc ep base _ 45 xv _ rfl hown1 HBL.out hlen (by omega) hx7 HVCE.out))).mono ?_
        rintro e W2 ⟨rfl, hbel2⟩
        have hb02 := boxed_below hb01 hbel2
        have hb12 := boxed_below hb11 hbel2
        have hc02 := hb02.cell
        have hf02 := hb02.frozen
        have hsz2 := hbel2.size
        have hbe3 := hbel.trans (hbel2.mono hsz1)
        clear hbel hbel2 hb01 hb11 hc11 hown1 hown hc0 hc1
        gi_wp2_with (refine ⟨trivial, ?_⟩; gi_at_call 23; refine (CallsIn.inRound l (callsIn_wide.2 (size_is c vc hvc2 _ HVC.out))).mono ?_; rintro e w' ⟨rfl, rfl⟩)
        refine ⟨trivial, ?_⟩
        gi_wp2
        refine ⟨trivial, ?_⟩
        gi_wp2
        exact ⟨(keepsOthers_of_below hbe3).from _, keepB_below (by omega) hbe3, ⟨by rw [HST.out]; exact hb02, hb12, by omega⟩, hB.trans (hbe3.mono hB.size)⟩
  case done =>
    rintro D ys W hD hys ⟨⟨hb0, hb1, hsz⟩, hB⟩ hK
    rw [foldS_all hys] at hb0
    have hc := hb0.cell
    gi_wp2
    refine ⟨by simp, .inl ⟨_, _, rfl, run_takeDeferred hK, ?_⟩⟩
    exact ⟨_, results_tmp rfl _ _ _, rfl, hB.trans (belowK_b (w := w) (Nat.le_refl _) W D _ _ (by simp at hD; omega) hK rfl rfl)⟩
  case stop =>
    rintro D c pre W _ _ h _
    exact h.elim
end Go.Proofs.Ytlkhmldceekdaaa

/- chains.read. -/
namespace Go.Proofs.Ytlkhmldceekdaaa
open Go.RowKit Go.Shelf
attribute [local go_sem ↓] Go.wp_at_zero Go.wp_at_succ
set_option linter.unusedVariables false

theorem digit_byte (c : UInt8) (w : World) :
    Calls Try.prog 54 #[.int .u8 (c.toNat : Int)] w fun e w' => e = .returned (.int .i64 ((c.toNat : Int) - 48)) ∧ w' = w :=
  digit_any _ w (by omega) (by have := c.toNat_lt; omega)

set_option maxRecDepth 100000 in
set_option maxHeartbeats 1000000 in
theorem read_any (t : ByteArray) (w : World) (hs : t.size = 3) :
    Calls Try.prog 40 #[.string t] w fun e w' => ∃ (m sg ab : Int) (ok : Bool), e = .returned (.tuple #[.agg #[.int .i64 m, .int .u8 sg, .int .i64 ab], .bool ok]) ∧ ok = blkOk (byt t 0) (byt t 1) (byt t 2) ∧
      (ok = true → m = (byt t 0 : Int) - 48 ∧ sg = (byt t 1 : Int) ∧ ab = (byt t 2 : Int) - 48) ∧ Below w.heap.size w w' := by
  have h0 : 0 < t.size := by omega
  have h1 : 1 < t.size := by omega
  have h2 : 2 < t.size := by omega
  have HS := hide hs
  have i0 : (0 : Int) < (t.size : Int) := by omega
  have i1 : (1 : Int) < (t.size : Int) := by omega
  have i2 : (2 : Int) < (t.size : Int) := by omega
  clear hs
  go_enter Try.func40, Try.ntmps40
  go_upto_region 1 with fail
  go_cut [4] from 5 to 13 (fun p wx => p = .pointer (some ⟨w.heap.size + 1, 0, none⟩) ∧ wx = ((w.alloc (.cells #[.int .i64 0, .int .u8 0, .int .i64 0] 88)).alloc (.cells #[.int .i64 ((t[0].toNat : Int) - 48), .int .u8 (t[1].toNat : Int), .int .i64 ((t[2].toNat : Int) - 48)] 88)).drew)
  case first =>
    refine wp_region_any (by kernel_rfl) ?_
    try (change wpAny _ _ _ _ _ _ _ (World.drew _))
    refine wpAny_take (i := 0) (v := ?_) rfl (by kernel_rfl) (by kernel_rfl) (by kernel_rfl) (fun _ _ _ h => h) (Or.inl ⟨by rfl, ?_⟩) ?_
    rotate_left
    · intro w
      go_simp
      try rfl
    refine wpAny_take (i := 1) (v := ?_) rfl (by kernel_rfl) (by kernel_rfl) (by kernel_rfl) (fun _ _ _ h => h) (Or.inl ⟨by rfl, ?_⟩) ?_
    rotate_left
    · intro w
      go_simp
      try rfl
    refine wpAny_take (i := 3) (v := ?_) rfl (by kernel_rfl) (by kernel_rfl) (by kernel_rfl) (fun _ _ _ h => h) (Or.inl ⟨by rfl, ?_⟩) ?_
    rotate_left
    · intro w
      go_simp
      try rfl
    refine wpAny_take (i := 4) (v := ?_) rfl (by kernel_rfl) (by kernel_rfl) (by kernel_rfl) (fun _ _ _ h => h) (Or.inl ⟨by rfl, ?_⟩) ?_
    rotate_left
    · intro w
      go_simp
      try rfl
    refine wpAny_take (i := 5) (v := ?_) rfl (by kernel_rfl) (by kernel_rfl) (by kernel_rfl) (fun _ _ _ h => h) (Or.inl ⟨by rfl, ?_⟩) ?_
    rotate_left
    · intro w
      go_simp
      try rfl
    refine wpAny_take (i := 6) (v := ?_) rfl (by kernel_rfl) (by kernel_rfl) (by kernel_rfl) (fun _ _ _ h => h) (Or.inl ⟨by rfl, ?_⟩) ?_
    rotate_left
    · intro w
      go_simp
      try rfl
    refine wpAny_ready (rs := [2, 9]) (by kernel_rfl) (by simp) ?_
    refine (AllReady.cons rfl (fun K hK => ?_) (AllReady.cons rfl (fun K hK => ?_) AllReady.nil))
    · skip
      go_simp
      go_wp2_with (go_at_call 54; refine (digit_byte _ _).mono ?_; rintro e w' ⟨rfl, rfl⟩)
      refine wpAny_ready (rs := [7, 9]) (by kernel_rfl) (by simp) ?_
      refine (AllReady.cons rfl (fun K hK => ?_) (AllReady.cons rfl (fun K hK => ?_) AllReady.nil))
      · skip
        go_simp
        go_wp2_with (go_at_call 54; refine (digit_byte _ _).mono ?_; rintro e w' ⟨rfl, rfl⟩)
        refine wpAny_take (i := 8) (v := ?_) rfl (by kernel_rfl) (by kernel_rfl) (by kernel_rfl) (fun _ _ _ h => h) (Or.inl ⟨by rfl, ?_⟩) ?_
        rotate_left
        · intro w
          go_simp
          try rfl
        refine wpAny_ready (rs := [9]) (by kernel_rfl) (by simp) ?_
        refine (AllReady.cons rfl (fun K hK => ?_) AllReady.nil)
        go_simp
        refine hK _ _ ?_
        clear hK K
        refine wpAny_ready (rs := [10]) (by kernel_rfl) (by simp) ?_
        refine (AllReady.cons rfl (fun K hK => ?_) AllReady.nil)
        go_simp
        refine hK _ _ ?_
        clear hK K
        refine wpAny_done (by kernel_rfl) ?_ _
        go_wp2_with fail
        go_meet
        exact ⟨rfl, rfl⟩
      · skip
        go_simp
        refine hK _ _ ?_
        clear hK K
        refine wpAny_ready (rs := [7]) (by kernel_rfl) (by simp) ?_
        refine (AllReady.cons rfl (fun K hK => ?_) AllReady.nil)
        go_simp
        go_wp2_with (go_at_call 54; refine (digit_byte _ _).mono ?_; rintro e w' ⟨rfl, rfl⟩)
        refine wpAny_take (i := 8) (v := ?_) rfl (by kernel_rfl) (by kernel_rfl) (by kernel_rfl) (fun _ _ _ h => h) (Or.inl ⟨by rfl, ?_⟩) ?_
        rotate_left
        · intro w
          go_simp
          try rfl
        refine wpAny_ready (rs := [10]) (by kernel_rfl) (by simp) ?_
        refine (AllReady.cons rfl (fun K hK => ?_) AllReady.nil)
        go_simp
        refine hK _ _ ?_
        clear hK K
        refine wpAny_done (by kernel_rfl) ?_ _
        go_wp2_with fail
        go_meet
        exact ⟨rfl, rfl⟩
    · skip
      go_simp
      refine hK _ _ ?_
      clear hK K
      refine wpAny_ready (rs := [2]) (by kernel_rfl) (by simp) ?_
      refine (AllReady.cons rfl (fun K hK => ?_) AllReady.nil)
      go_simp
      go_wp2_with (go_at_call 54; refine (digit_byte _ _).mono ?_; rintro e w' ⟨rfl, rfl⟩)
      refine wpAny_ready (rs := [7]) (by kernel_rfl) (by simp) ?_
      refine (AllReady.cons rfl (fun K hK => ?_) AllReady.nil)
      go_simp
      go_wp2_with (go_at_call 54; refine (digit_byte _ _).mono ?_; rintro e w' ⟨rfl, rfl⟩)
      refine wpAny_take (i := 8) (v := ?_) rfl (by kernel_rfl) (by kernel_rfl) (by kernel_rfl) (fun _ _ _ h => h) (Or.inl ⟨by rfl, ?_⟩) ?_
      rotate_left
      · intro w
        go_simp
        try rfl
      refine wpAny_ready (rs := [10]) (by kernel_rfl) (by simp) ?_
      refine (AllReady.cons rfl (fun K hK => ?_) AllReady.nil)
      go_simp
      refine hK _ _ ?_
      clear hK K
      refine wpAny_done (by kernel_rfl) ?_ _
      go_wp2_with fail
      go_meet
      exact ⟨rfl, rfl⟩
  case rest =>
    obtain ⟨rfl, rfl⟩ := hcut
    go_wp2_with (go_at_call 55; refine (isNode_any _ _).mono ?_; rintro e w' ⟨rfl, rfl⟩)
    · rename_i hn
      refine bodyPost_ret (v := .tuple #[.agg #[.int .i64 0, .int .u8 0, .int .i64 0], .bool false]) (by simp [results, Try.results40, go_sem]) rfl ⟨0, 0, 0, false, rfl, ?_, fun h => (by cases h), ?_⟩
      · rw [byt_eq t 0 h0] at hn
        rw [Bool.eq_iff_iff, blkOk_iff]
        simp at hn ⊢
        omega
      · exact ((((Below.refl _ w).alloc (Nat.le_refl _) _).alloc (by simp) _).drew).trans (by first | exact Below.refl _ _ | exact (Below.refl _ _).setCell (Nat.le_refl _) _)
    · go_region
      all_goals go_wp2
      all_goals
        refine bodyPost_ret (v := .tuple #[.agg #[.int .i64 ((t[0].toNat : Int) - 48), .int .u8 (t[1].toNat : Int), .int .i64 ((t[2].toNat : Int) - 48)], .bool (((t[2].toNat : Int) - 48) == 0)]) (by simp [results, Try.results40, go_sem]) rfl ⟨_, _, _, _, rfl, ?_, fun _ => ⟨by rw [byt_eq t 0 h0], by rw [byt_eq t 1 h1], by rw [byt_eq t 2 h2]⟩, ?_⟩
        · simp only [byt_eq t 0 h0, byt_eq t 1 h1, byt_eq t 2 h2] at *
          rw [Bool.eq_iff_iff, blkOk_iff]
          simp only [Bool.not_eq_eq_eq_not, Bool.not_false, decide_eq_true_eq, beq_iff_eq] at *
          omega
        · exact ((((Below.refl _ w).alloc (Nat.le_refl _) _).alloc (by simp) _).drew).drew
    · go_region_with (go_at_call 55; refine (isNode_any _ _).mono ?_; rintro e w' ⟨rfl, rfl⟩)
      all_goals go_wp2
      all_goals
        refine bodyPost_ret (v := .tuple #[.agg #[.int .i64 ((t[0].toNat : Int) - 48), .int .u8 (t[1].toNat : Int), .int .i64 ((t[2].toNat : Int) - 48)], .bool (decide (0 ≤ ((t[2].toNat : Int) - 48)) && decide (((t[2].toNat : Int) - 48) < 7))]) (by simp [results, Try.results40, go_sem]) rfl ⟨_, _, _, _, rfl, ?_, fun _ => ⟨by rw [byt_eq t 0 h0], by rw [byt_eq t 1 h1], by rw [byt_eq t 2 h2]⟩, ?_⟩
        · simp only [byt_eq t 0 h0, byt_eq t 1 h1, byt_eq t 2 h2] at *
          rw [Bool.eq_iff_iff, blkOk_iff]
          simp only [Bool.and_eq_true, Bool.not_eq_eq_eq_not, Bool.not_false, decide_eq_true_eq, beq_iff_eq, beq_eq_false_iff_ne, ne_eq] at *
          omega
        · exact ((((Below.refl _ w).alloc (Nat.le_refl _) _).alloc (by simp) _).drew).drew
    · go_region_with (go_at_call 55; refine (isNode_any _ _).mono ?_; rintro e w' ⟨rfl, rfl⟩)
      all_goals go_wp2
      all_goals
        refine bodyPost_ret (v := .tuple #[.agg #[.int .i64 ((t[0].toNat : Int) - 48), .int .u8 (t[1].toNat : Int), .int .i64 ((t[2].toNat : Int) - 48)], .bool (decide (0 ≤ ((t[2].toNat : Int) - 48)) && decide (((t[2].toNat : Int) - 48) < 7))]) (by simp [results, Try.results40, go_sem]) rfl ⟨_, _, _, _, rfl, ?_, fun _ => ⟨by rw [byt_eq t 0 h0], by rw [byt_eq t 1 h1], by rw [byt_eq t 2 h2]⟩, ?_⟩
        · simp only [byt_eq t 0 h0, byt_eq t 1 h1, byt_eq t 2 h2] at *
          rw [Bool.eq_iff_iff, blkOk_iff]
          simp only [Bool.and_eq_true, Bool.not_eq_eq_eq_not, Bool.not_false, decide_eq_true_eq, beq_iff_eq, beq_eq_false_iff_ne, ne_eq] at *
          omega
        · exact ((((Below.refl _ w).alloc (Nat.le_refl _) _).alloc (by simp) _).drew).drew
    · refine bodyPost_ret (v := .tuple #[.agg #[.int .i64 0, .int .u8 0, .int .i64 0], .bool false]) (by simp [results, Try.results40, go_sem]) rfl ⟨0, 0, 0, false, rfl, ?_, fun h => (by cases h), ?_⟩
      · simp only [byt_eq t 0 h0, byt_eq t 1 h1] at *
        rw [Bool.eq_iff_iff, blkOk_iff]
        simp only [Bool.not_eq_eq_eq_not, Bool.not_false, decide_eq_true_eq, beq_eq_false_iff_ne, ne_eq, Bool.false_eq_true, false_iff] at *
        omega
      · exact ((((Below.refl _ w).alloc (Nat.le_refl _) _).alloc (by simp) _).drew).trans (by first | exact Below.refl _ _ | exact (Below.refl _ _).setCell (Nat.le_refl _) _)
end Go.Proofs.Ytlkhmldceekdaaa

/- What chains.Members does entry by entry: plain mathematics. -/
namespace Go.Proofs.Ytlkhmldceekdaaa
set_option linter.unusedVariables false

def stepC (c : ByteArray) (st : Option (Nat × List Blk)) (x : Nat) : Option (Nat × List Blk) :=
  match st with
  | none => none
  | some (s, ep) => if okAt c x = true ∧ s.testBit (byt c (3 * x) - 48) = true then
      (if (x + 1) % 3 = 0 then some (countS (ep ++ [blkAt c x]) s, []) else some (s, ep ++ [blkAt c x])) else none
def runC (c : ByteArray) (s0 : Nat) (l : List Nat) : Option (Nat × List Blk) := l.foldl (stepC c) (some (s0, []))
theorem runC_snoc (c : ByteArray) (s0 : Nat) (l : List Nat) (x : Nat) : runC c s0 (l ++ [x]) = stepC c (runC c s0 l) x := by simp [runC]
theorem foldl_none (c : ByteArray) : ∀ l : List Nat, l.foldl (stepC c) none = none
  | [] => rfl
  | _ :: r => foldl_none c r
theorem runC_none {c : ByteArray} {s0 : Nat} {l r : List Nat} (h : runC c s0 l = none) : runC c s0 (l ++ r) = none := by
  unfold runC at *
  rw [List.foldl_append, h, foldl_none]
def GoodC (n : Nat) (st : Option (Nat × List Blk)) : Prop := ∀ s ep, st = some (s, ep) → s < 128 ∧ ep.length ≤ n ∧ ∀ b ∈ ep, b.1 < 7
theorem GoodC.step {c : ByteArray} {n x : Nat} {st : Option (Nat × List Blk)} (hg : GoodC n st) : GoodC (n + 1) (stepC c st x) := by
  intro s ep h
  cases st with
  | none => cases h
  | some q =>
    obtain ⟨s', ep'⟩ := q
    obtain ⟨i1, i2, i3⟩ := hg s' ep' rfl
    simp only [stepC] at h
    split at h
    · rename_i hc
      have hb : (blkAt c x).1 < 7 := by
        have := blkOk_iff.1 hc.1
        show byt c (3 * x) - 48 < 7
        omega
      split at h
      · simp only [Option.some.injEq, Prod.mk.injEq] at h
        obtain ⟨rfl, rfl⟩ := h
        exact ⟨countS_lt i1, by simp, by simp⟩
      · simp only [Option.some.injEq, Prod.mk.injEq] at h
        obtain ⟨rfl, rfl⟩ := h
        refine ⟨i1, by simp; omega, fun b hb' => ?_⟩
        rcases List.mem_append.1 hb' with h' | h'
        · exact i3 b h'
        · simp at h'; rw [h']; exact hb
    · cases h
theorem GoodC.run {c : ByteArray} : ∀ (l : List Nat) (n : Nat) (st : Option (Nat × List Blk)), GoodC n st → GoodC (n + l.length) (l.foldl (stepC c) st)
  | [], _, _, h => h
  | x :: r, n, st, h => by
    have := GoodC.run (c := c) r (n + 1) (stepC c st x) h.step
    rw [List.length_cons, show n + (r.length + 1) = n + 1 + r.length by omega]
    exact this
theorem runC_facts {c : ByteArray} {s0 : Nat} (h0 : s0 < 128) (l : List Nat) (s : Nat) (ep : List Blk) (h : runC c s0 l = some (s, ep)) : s < 128 ∧ ep.length ≤ l.length ∧ ∀ b ∈ ep, b.1 < 7 := by
  have hg : GoodC 0 (some (s0, ([] : List Blk))) := by
    intro s ep h
    simp only [Option.some.injEq, Prod.mk.injEq] at h
    obtain ⟨rfl, rfl⟩ := h
    exact ⟨h0, by simp, by simp⟩
  have := GoodC.run (c := c) l 0 _ hg s ep h
  simpa using this

/-- the blocks since the last epoch's end -/
def sinceE (c : ByteArray) (k : Nat) : List Blk := (List.range (k % 3)).map (fun i => blkAt c (k - k % 3 + i))
theorem runC_range (c : ByteArray) (s0 : Nat) : ∀ k, runC c s0 (List.range k) = (memTo c s0 k).map (fun s => (s, sinceE c k))
  | 0 => by simp [runC, memTo, sinceE]
  | k + 1 => by
    rw [List.range_succ, runC_snoc, runC_range c s0 k, memTo]
    cases hm : memTo c s0 k with
    | none => rfl
    | some s =>
      simp only [Option.map_some, stepC]
      by_cases hc : okAt c k = true ∧ s.testBit (byt c (3 * k) - 48) = true
      · rw [if_pos hc, if_pos hc]
        by_cases h3 : (k + 1) % 3 = 0
        · rw [if_pos h3, if_pos h3]
          have e2 : k % 3 = 2 := by omega
          have e : sinceE c k ++ [blkAt c k] = [blkAt c (k - 2), blkAt c (k - 1), blkAt c k] := by
            unfold sinceE
            rw [e2]
            have e3 : k - 2 + 1 = k - 1 := by omega
            show [blkAt c (k - 2 + 0), blkAt c (k - 2 + 1)] ++ [blkAt c k] = _
            rw [e3]; rfl
          rw [e]
          have e0 : sinceE c (k + 1) = [] := by unfold sinceE; rw [h3]; rfl
          simp [e0]
        · rw [if_neg h3, if_neg h3]
          have e : sinceE c k ++ [blkAt c k] = sinceE c (k + 1) := by
            unfold sinceE
            have e1 : (k + 1) % 3 = k % 3 + 1 := by omega
            have e2 : k + 1 - (k % 3 + 1) = k - k % 3 := by omega
            have e3 : k - k % 3 + k % 3 = k := by omega
            rw [e1, e2, List.range_succ, List.map_append, List.map_cons, List.map_nil, e3]
          simp [e]
      · rw [if_neg hc, if_neg hc]; rfl
end Go.Proofs.Ytlkhmldceekdaaa

/- chains.Members. -/
namespace Go.Proofs.Ytlkhmldceekdaaa
open Go.RowKit Go.Shelf
set_option linter.unusedVariables false

set_option maxHeartbeats 1000000 in
theorem chMembers_no (n : Int) (c : ByteArray) (w : World) (hn : n < 4 ∨ 7 < n) :
    Calls Try.prog 22 #[.int .i64 n, .string c] w fun e w' => e = .returned (.tuple #[.int .i64 0, .int .i64 1]) ∧ Below w.heap.size w w' := by
  rcases hn with h | h
  · go_enter Try.func22, Try.ntmps22
    go_wp2
    exact bodyPost_ret (v := .tuple #[.int .i64 0, .int .i64 1]) (by simp [results, Try.results22, go_sem]) rfl ⟨rfl, ((Below.refl _ w).alloc (Nat.le_refl _) _).alloc (by simp) _⟩
  · have h' : ¬ n < 4 := by omega
    go_enter Try.func22, Try.ntmps22
    go_wp2
    exact bodyPost_ret (v := .tuple #[.int .i64 0, .int .i64 1]) (by simp [results, Try.results22, go_sem]) rfl ⟨rfl, ((Below.refl _ w).alloc (Nat.le_refl _) _).alloc (by simp) _⟩

set_option maxHeartbeats 1000000 in
theorem chMembers_bad (n : Nat) (c : ByteArray) (w : World) (h4 : 4 ≤ n) (h8 : n < 8) (hc : c.size ≤ maxLen) (hb : ¬ (c.size % 3 = 0 ∧ c.size ≤ 18)) :
    Calls Try.prog 22 #[.int .i64 (n : Int), .string c] w fun e w' => e = .returned (.tuple #[.int .i64 0, .int .i64 5]) ∧ Below w.heap.size w w' := by
  have hmx : c.size ≤ 2 ^ 63 - 1 := by unfold maxLen at hc; exact hc
  by_cases h3 : c.size % 3 = 0
  · have h18 : 6 < c.size / 3 := by omega
    obtain ⟨m, hm⟩ : ∃ m, c.size / 3 = m := ⟨_, rfl⟩
    have HM := hide hm
    rw [hm] at h18
    clear hb hm
    go_enter Try.func22, Try.ntmps22
    go_wp2_with (go_at_call 37; refine (blocks_is m c _ hc HM.out).mono ?_; rintro e w' ⟨rfl, rfl⟩)
    exact bodyPost_ret (v := .tuple #[.int .i64 0, .int .i64 5]) (by simp [results, Try.results22, go_sem]) rfl ⟨rfl, ((Below.refl _ w).alloc (Nat.le_refl _) _).alloc (by simp) _⟩
  · clear hb
    go_enter Try.func22, Try.ntmps22
    go_wp2
    exact bodyPost_ret (v := .tuple #[.int .i64 0, .int .i64 5]) (by simp [results, Try.results22, go_sem]) rfl ⟨rfl, ((Below.refl _ w).alloc (Nat.le_refl _) _).alloc (by simp) _⟩
end Go.Proofs.Ytlkhmldceekdaaa
