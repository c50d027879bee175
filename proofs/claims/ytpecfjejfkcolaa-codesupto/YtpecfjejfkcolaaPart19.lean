import Derived.Test.YtpecfjejfkcolaaPart18
import Derived.Laws.MakeOwn
/- wire's reader: text, move. -/
namespace Go.Proofs.Ytpecfjejfkcolaa
open Go.RowKit Go.Shelf
set_option linter.unusedVariables false

theorem RdAt.below {w w' : World} {R : Nat} {s : ByteArray} {sh : Bool} (h : RdAt w R s sh) (hb : Below w.heap.size w w') : RdAt w' R s sh := ⟨(hb.block R (lt_of_block h.1)).trans h.1, h.2⟩
theorem below_grown_by {w w' w'' : World} {R : Nat} (hb : Below w.heap.size w w') (hg : w'.grownBy w'' (some R)) : w.grownBy w'' (some R) :=
  ⟨hg.os.trans hb.os, hg.tape.trans hb.tape, hg.output.trans hb.output, Nat.le_trans hb.size hg.size, fun k hk hne => (hg.block k (Nat.lt_of_lt_of_le hk hb.size) hne).trans (hb.block k hk)⟩
theorem grown_trans {a b c : World} {row : Option Nat} (h1 : a.grownBy b row) (h2 : b.grownBy c row) : a.grownBy c row :=
  ⟨h2.os.trans h1.os, h2.tape.trans h1.tape, h2.output.trans h1.output, Nat.le_trans h1.size h2.size, fun k hk hne => (h2.block k (Nat.lt_of_lt_of_le hk h1.size) hne).trans (h1.block k hk hne)⟩
theorem grown_alloc {a b : World} {row : Option Nat} {o : Obj} (h : (a.alloc o).grownBy b row) : a.grownBy b row := grown_trans (World.grownBy_alloc a o row) h
/-- a block that is not R stays -/
theorem heap_grown {a b : World} {R k : Nat} {o : Obj} (hg : a.grownBy b (some R)) (h : a.heap[k]? = some o) (hne : k ≠ R) : b.heap[k]? = some o :=
  (hg.block k (lt_of_block h) (by simpa using hne)).trans h
theorem free_of {w : World} {b j : Nat} {cs : Array Value} {t : TypeId} (h : w.heap[b]? = some (.cells cs t (0, 0))) : w.frozen? ⟨b, j, none⟩ = false := by simp [World.frozen?, h]
theorem grown_set {a b : World} {R k j : Nat} {u : Value} (h : a.grownBy b (some R)) (hk : a.heap.size ≤ k) : a.grownBy (b.setCell ⟨k, j, none⟩ u) (some R) := by
  have g := grownBy_setCellAt b k j u
  exact ⟨h.os, h.tape, h.output, Nat.le_trans h.size g.size, fun i hi hne => (g.block i (Nat.lt_of_lt_of_le hi h.size) (by simp; omega)).trans (h.block i hi hne)⟩
theorem RdAt.set {w : World} {R k j : Nat} {s : ByteArray} {sh : Bool} {u : Value} (h : RdAt w R s sh) (hk : k ≠ R) : RdAt (w.setCell ⟨k, j, none⟩ u) R s sh :=
  ⟨((grownBy_setCellAt w k j u).block R (lt_of_block h.1) (by simp; omega)).trans h.1, h.2⟩
theorem RdAt.alloc {w : World} {R : Nat} {s : ByteArray} {sh : Bool} {o : Obj} (h : RdAt w R s sh) : RdAt (w.alloc o) R s sh := h.below ((Below.refl _ w).alloc (Nat.le_refl _) _)
theorem heap_other {w : World} {b k j : Nat} {u : Value} {o : Obj} (h : w.heap[b]? = some o) (hne : b ≠ k) : (w.setCell ⟨k, j, none⟩ u).heap[b]? = some o :=
  ((grownBy_setCellAt w k j u).block b (lt_of_block h) (by simpa using hne)).trans h
theorem heap_set {w : World} {b j : Nat} {cs : Array Value} {u : Value} {t : TypeId} (h : w.heap[b]? = some (.cells cs t (0, 0))) (hj : j < cs.size) : (w.setCell ⟨b, j, none⟩ u).heap[b]? = some (.cells (cs.set j u hj) t (0, 0)) := by
  obtain ⟨hlt, hk⟩ := Array.getElem?_eq_some_iff.1 h
  show (w.heap.modify b _)[b]? = _
  rw [Array.getElem?_eq_getElem (by rw [Array.size_modify]; exact hlt), Array.getElem_modify_self, hk]
  simp [Array.setIfInBounds, hj]
theorem RdAt.lt {w : World} {R : Nat} {s : ByteArray} {sh : Bool} (h : RdAt w R s sh) : R < w.heap.size := lt_of_block h.1
set_option maxRecDepth 100000 in
set_option maxHeartbeats 1000000 in
theorem text_any (R n : Nat) (s : ByteArray) (sh : Bool) (w : World) (hr : RdAt w R s sh) (hn : n ≤ 1000) :
    Calls Try.prog 65 #[.pointer (some ⟨R, 0, none⟩), .int .i64 (n : Int)] w fun e w' => e = .returned (.string (textB n s sh).1) ∧ RdAt w' R (textB n s sh).2.1 (textB n s sh).2.2 ∧ w.grownBy w' (some R) := by
  obtain ⟨c0, c1⟩ := hr.cells
  have f0 := hr.free (j := 0)
  have f1 := hr.free (j := 1)
  have HR := hide hr
  have hsz := hr.2
  unfold maxLen at hsz
  clear hr
  by_cases h0 : s.size < n
  · have HN : Hid (textB n s sh = (ByteArray.empty, ByteArray.empty, true)) := if_pos h0
    go_enter Try.func65, Try.ntmps65
    go_wp2
    go_ret
    rw [HN.out]
    exact ⟨rfl, ⟨heap_set2_1 (heap_set2_0 HR.out.1), by unfold maxLen; exact Nat.zero_le _⟩, grown_trans (grownBy_setCellAt _ _ _ _) (grownBy_setCellAt _ _ _ _)⟩
  · have HN : Hid (textB n s sh = (s.extract 0 n, s.extract n s.size, sh)) := if_neg h0
    have i0 : (0 : Int) ≤ (n : Int) := by omega
    have i1 : (n : Int) ≤ (s.size : Int) := by omega
    have he : (s.extract 0 n).size ≤ 1000 := by rw [ByteArray.size_extract]; omega
    go_enter Try.func65, Try.ntmps65
    go_wp2_with (go_at_call 73; refine (clone_any _ _ (by omega)).mono ?_; rintro e w1 ⟨rfl, hb1⟩; have hr1 := HR.out.below hb1; obtain ⟨d0, d1⟩ := hr1.cells; have g0 := hr1.free (j := 0))
    go_ret
    rw [HN.out]
    refine ⟨rfl, ⟨heap_set2_0 hr1.1, ?_⟩, below_grown_by hb1 (grownBy_setCellAt _ _ _ _)⟩
    show (s.extract n s.size).size ≤ maxLen
    rw [ByteArray.size_extract]
    unfold maxLen
    omega

/-- a Move from the front -/
def moveB (node : Int) (n : Nat) (s : ByteArray) (sh : Bool) : Mv × ByteArray × Bool :=
  if (numB s sh).1 = 0 then (⟨node, -1, ByteArray.empty, 0⟩, (numB s sh).2.1, (numB s sh).2.2)
  else
    (⟨node, (numB s sh).1 - 1, (textB n (numB s sh).2.1 (numB s sh).2.2).1, (numB (textB n (numB s sh).2.1 (numB s sh).2.2).2.1 (textB n (numB s sh).2.1 (numB s sh).2.2).2.2).1⟩,
      (numB (textB n (numB s sh).2.1 (numB s sh).2.2).2.1 (textB n (numB s sh).2.1 (numB s sh).2.2).2.2).2)
theorem numB_bound (s : ByteArray) (sh : Bool) : 0 ≤ (numB s sh).1 ∧ (numB s sh).1 ≤ 255 := by
  unfold numB
  split
  · rename_i h
    have := s[0].toNat_lt
    dsimp only
    omega
  · dsimp only; omega
theorem number_is (n : Int) (s1 : ByteArray) (sh1 : Bool) (R : Nat) (s : ByteArray) (sh : Bool) (w : World) (hr : RdAt w R s sh) (hn : numB s sh = (n, s1, sh1)) :
    Calls Try.prog 64 #[.pointer (some ⟨R, 0, none⟩)] w fun e w' => e = .returned (.int .i64 n) ∧ RdAt w' R s1 sh1 ∧ w.grownBy w' (some R) := by
  have h := number_any R s sh w hr
  rw [hn] at h
  exact h
theorem text_is (c : ByteArray) (s1 : ByteArray) (sh1 : Bool) (R n : Nat) (s : ByteArray) (sh : Bool) (w : World) (hr : RdAt w R s sh) (hn : n ≤ 1000) (ht : textB n s sh = (c, s1, sh1)) :
    Calls Try.prog 65 #[.pointer (some ⟨R, 0, none⟩), .int .i64 (n : Int)] w fun e w' => e = .returned (.string c) ∧ RdAt w' R s1 sh1 ∧ w.grownBy w' (some R) := by
  have h := text_any R n s sh w hr hn
  rw [ht] at h
  exact h

set_option maxRecDepth 100000 in
set_option maxHeartbeats 2000000 in
theorem moveR_any (R n : Nat) (node : Int) (s : ByteArray) (sh : Bool) (w : World) (hr : RdAt w R s sh) (hn : n ≤ 1000) :
    Calls Try.prog 67 #[.pointer (some ⟨R, 0, none⟩), .int .i64 node, .int .i64 (n : Int)] w fun e w' => e = .returned (mvV (moveB node n s sh).1) ∧ RdAt w' R (moveB node n s sh).2.1 (moveB node n s sh).2.2 ∧ w.grownBy w' (some R) := by
  obtain ⟨p0, s1, sh1, h1⟩ : ∃ p s1 sh1, numB s sh = (p, s1, sh1) := ⟨_, _, _, rfl⟩
  have hb := numB_bound s sh
  rw [h1] at hb
  dsimp only at hb
  have H1 := hide h1
  have HR := hide hr
  have hlt := hr.lt
  have hA := World.alloc_heap_new w (.cells #[.int .i64 0, .int .i64 0, .string ⟨#[]⟩, .int .i64 0] 43 (0, 0))
  have HA := hide hA
  clear hr hA
  by_cases h0 : p0 = 0
  · have HM : Hid (moveB node n s sh = (⟨node, p0 - 1, ByteArray.empty, 0⟩, s1, sh1)) := by
      show _ = _
      unfold moveB
      rw [h1, if_pos h0, h0]; rfl
    have p0B : (p0 - 1 == -1) = true := by simp; omega
    have p0C : (p0 == 0) = true := by simp [h0]
    clear h1
    have H0 := hide h0
    clear h0
    go_enter Try.func67, Try.ntmps67
    go_wp2_with (go_at_call 64; refine (number_is p0 s1 sh1 R s sh _ (HR.out.below ((Below.refl _ w).alloc (Nat.le_refl _) _)) H1.out).mono ?_; rintro e w1 ⟨rfl, hr1, hg1⟩; have x1 := heap_grown hg1 HA.out (by omega); have x2 := box_alloc (o' := .cells #[.int .i64 node, .int .i64 (p0 - 1), .string ⟨#[]⟩, .int .i64 0] 43) x1; have a0 := box_read (i := 0) x2 rfl; have a1 := box_read (i := 1) x2 rfl; have a2 := box_read (i := 2) x2 rfl; have a3 := box_read (i := 3) x2 rfl; have e0 := free_of (j := 0) x2; have e1 := free_of (j := 1) x2; have e2 := free_of (j := 2) x2; have e3 := free_of (j := 3) x2)
    refine bodyPost_ret (v := mvV ⟨node, p0 - 1, ⟨#[]⟩, 0⟩) (by simp [results, Try.results67, go_sem, a0, a1, a2, a3]) rfl ?_
    rw [HM.out]
    have hg := grown_alloc hg1
    refine ⟨rfl, ((((hr1.alloc).set (by omega)).set (by omega)).set (by omega)).set (by omega), ?_⟩
    exact grown_set (grown_set (grown_set (grown_set (grown_trans hg (World.grownBy_alloc _ _ _)) (Nat.le_refl _)) (Nat.le_refl _)) (Nat.le_refl _)) (Nat.le_refl _)
  · obtain ⟨c, s2, sh2, h2⟩ : ∃ c s2 sh2, textB n s1 sh1 = (c, s2, sh2) := ⟨_, _, _, rfl⟩
    obtain ⟨y, s3, sh3, h3⟩ : ∃ y s3 sh3, numB s2 sh2 = (y, s3, sh3) := ⟨_, _, _, rfl⟩
    have HM : Hid (moveB node n s sh = (⟨node, p0 - 1, c, y⟩, s3, sh3)) := by
      show _ = _
      unfold moveB
      rw [h1, if_neg h0]
      dsimp only
      rw [h2]
      dsimp only
      rw [h3]
    have H2 := hide h2
    have H3 := hide h3
    have p0B : (p0 - 1 == -1) = false := beq_eq_false_iff_ne.2 (by omega)
    have p0C : (p0 == 0) = false := beq_eq_false_iff_ne.2 h0
    have H0 := hide h0
    clear h0 h1 h2 h3
    go_enter Try.func67, Try.ntmps67
    go_wp2_with (first
      | (go_at_call 64; refine (number_is y s3 sh3 R s2 sh2 _ (hr2.set (by omega)) H3.out).mono ?_; rintro e w3 ⟨rfl, hr3, hg3⟩; have x5 := heap_grown hg3 x4 (by omega); have d0 := box_read (i := 0) x5 rfl; have d1 := box_read (i := 1) x5 rfl; have d2 := box_read (i := 2) x5 rfl; have d3 := box_read (i := 3) x5 rfl; have k3 := free_of (j := 3) x5; have r5 := heap_grown hg3 (heap_other (k := w1.heap.size) (j := 2) (u := .string c) r4 (by omega)) (by omega); have r6 := heap_other (k := w1.heap.size) (j := 3) (u := .int .i64 y) r5 (by omega); have a0 := box_read (i := 0) r6 rfl; have a1 := box_read (i := 1) r6 rfl; have a2 := box_read (i := 2) r6 rfl; have a3 := box_read (i := 3) r6 rfl; have e0 := free_of (j := 0) r6; have e1 := free_of (j := 1) r6; have e2 := free_of (j := 2) r6; have e3 := free_of (j := 3) r6)
      | (go_at_call 64; refine (number_is p0 s1 sh1 R s sh _ (HR.out.below ((Below.refl _ w).alloc (Nat.le_refl _) _)) H1.out).mono ?_; rintro e w1 ⟨rfl, hr1, hg1⟩; have x1 := heap_grown hg1 HA.out (by omega); have s1' := hg1.size; rw [World.size_alloc] at s1'; have x2 := World.alloc_heap_new w1 (.cells #[.int .i64 node, .int .i64 (p0 - 1), .string ⟨#[]⟩, .int .i64 0] 43 (0, 0)))
      | (go_at_call 65; refine (text_is c s2 sh2 R n s1 sh1 _ hr1.alloc hn H2.out).mono ?_; rintro e w2 ⟨rfl, hr2, hg2⟩; have x3 := heap_grown hg2 x2 (by omega); have b2 := box_read (i := 2) x3 rfl; have f2 := free_of (j := 2) x3; have x4 : (w2.setCell ⟨w1.heap.size, 2, none⟩ (.string c)).heap[w1.heap.size]? = some (.cells #[.int .i64 node, .int .i64 (p0 - 1), .string c, .int .i64 0] 43 (0, 0)) := heap_set (j := 2) (u := .string c) x3 (by simp); have r4 := heap_grown hg2 (box_alloc x1) (by omega)))
    refine bodyPost_ret (v := mvV ⟨node, p0 - 1, c, y⟩) (by simp [results, Try.results67, go_sem, a0, a1, a2, a3]) rfl ?_
    rw [HM.out]
    have hg := grown_alloc hg1
    have hg2' := grown_trans hg (grown_alloc hg2)
    have hg3' := grown_trans (grown_set (k := w1.heap.size) (j := 2) (u := .string c) hg2' (by omega)) hg3
    refine ⟨rfl, (((((hr3).set (by omega)).set (by omega)).set (by omega)).set (by omega)).set (by omega), ?_⟩
    exact grown_set (grown_set (grown_set (grown_set (grown_set hg3' (by omega)) (Nat.le_refl _)) (Nat.le_refl _)) (Nat.le_refl _)) (Nat.le_refl _)
end Go.Proofs.Ytpecfjejfkcolaa

/- wire's reader: moves. -/
namespace Go.Proofs.Ytpecfjejfkcolaa
open Go.RowKit Go.Shelf
set_option linter.unusedVariables false

/-- Moves as cells -/
def mvL (x : Mv) : List Value := [.int .i64 x.node, .int .i64 x.prep, .string x.chain, .int .i64 x.by']
def flatV : List Mv → List Value
  | [] => []
  | x :: l => mvL x ++ flatV l
def noMv : Mv := ⟨0, 0, ⟨#[]⟩, 0⟩
theorem flatV_length : ∀ l : List Mv, (flatV l).length = l.length * 4
  | [] => rfl
  | x :: l => by rw [flatV, List.length_append, flatV_length l, List.length_cons]; show 4 + _ = _; omega
theorem flatV_append : ∀ a b : List Mv, flatV (a ++ b) = flatV a ++ flatV b
  | [], b => rfl
  | x :: a, b => by rw [List.cons_append, flatV, flatV, flatV_append a b, List.append_assoc]
/-- a Move's four cells -/
theorem flatV_get (a b : List Mv) (x : Mv) (i : Nat) (hi : a.length = i) :
    (flatV (a ++ x :: b))[i * 4]? = some (.int .i64 x.node) ∧ (flatV (a ++ x :: b))[i * 4 + 1]? = some (.int .i64 x.prep) ∧ (flatV (a ++ x :: b))[i * 4 + 2]? = some (.string x.chain) ∧ (flatV (a ++ x :: b))[i * 4 + 3]? = some (.int .i64 x.by') := by
  have hl : (flatV a).length = i * 4 := by rw [flatV_length, hi]
  rw [flatV_append, flatV]
  refine ⟨?_, ?_, ?_, ?_⟩ <;> rw [List.getElem?_append_right (by omega), hl]
  · rw [Nat.sub_self]; rfl
  · rw [show i * 4 + 1 - i * 4 = 1 by omega]; rfl
  · rw [show i * 4 + 2 - i * 4 = 2 by omega]; rfl
  · rw [show i * 4 + 3 - i * 4 = 3 by omega]; rfl
theorem flatV_set (a b : List Mv) (x y : Mv) (i : Nat) (hi : a.length = i) :
    ((((flatV (a ++ y :: b)).set (i * 4) (.int .i64 x.node)).set (i * 4 + 1) (.int .i64 x.prep)).set (i * 4 + 2) (.string x.chain)).set (i * 4 + 3) (.int .i64 x.by') = flatV (a ++ x :: b) := by
  have hl : (flatV a).length = i * 4 := by rw [flatV_length, hi]
  rw [flatV_append, flatV_append, flatV, flatV]
  rw [List.set_append_right _ _ (by omega), hl, Nat.sub_self, List.set_append_right _ _ (by omega), hl, show i * 4 + 1 - i * 4 = 1 by omega, List.set_append_right _ _ (by omega), hl, show i * 4 + 2 - i * 4 = 2 by omega, List.set_append_right _ _ (by omega), hl, show i * 4 + 3 - i * 4 = 3 by omega]
  rfl
/-- Moves from the front -/
def readMoves (n : Nat) : Nat → ByteArray → Bool → List Mv × ByteArray × Bool
  | 0, s, sh => ([], s, sh)
  | k + 1, s, sh =>
    let a := numB s sh
    let b := moveB a.1 n a.2.1 a.2.2
    let c := readMoves n k b.2.1 b.2.2
    (b.1 :: c.1, c.2)

def zeroMv : Array Value := #[.int .i64 0, .int .i64 0, .string ⟨#[]⟩, .int .i64 0]
theorem flatV_none : ∀ n i, i < n * 4 → (flatV (List.replicate n noMv))[i]? = some (zeroMv[i % zeroMv.size]!)
  | 0, i, h => by omega
  | n + 1, i, h => by
    rw [List.replicate_succ, flatV]
    by_cases h4 : i < 4
    · rw [List.getElem?_append_left (by exact h4)]
      match i, h4 with
      | 0, _ => rfl
      | 1, _ => rfl
      | 2, _ => rfl
      | 3, _ => rfl
    · rw [List.getElem?_append_right (by show 4 ≤ i; omega)]
      show (flatV (List.replicate n noMv))[i - 4]? = _
      rw [flatV_none n (i - 4) (by omega)]
      have e : zeroMv.size = 4 := rfl
      rw [e, show (i - 4) % 4 = i % 4 by omega]
theorem made_moves (n : Nat) : madeCells zeroMv (n * 4) = (flatV (List.replicate n noMv)).toArray := by
  apply Array.ext
  · rw [size_madeCells, List.size_toArray, flatV_length, List.length_replicate]
  · intro i h1 h2
    rw [size_madeCells] at h1
    have h := flatV_none n i h1
    rw [List.getElem?_eq_getElem (by rw [flatV_length, List.length_replicate]; exact h1)] at h
    simp only [Option.some.injEq] at h
    have e : (flatV (List.replicate n noMv)).toArray[i] = (flatV (List.replicate n noMv))[i]'(by rw [flatV_length, List.length_replicate]; exact h1) := by simp
    rw [e, h]
    simp [madeCells]
theorem Try.infoMv : (Try.prog.info? 43).map (fun i => (i.zero, i.size, i.bytes)) = some (some (.agg zeroMv), 4, 40) := by kernel_rfl
theorem make_moves (n : Nat) (hn : n ≤ 1000) (w : World) : (Instr.makeSlice 37 (.int .i64 (n : Int)) (.int .i64 (n : Int))).run Try.prog w = .ok (.slice (some ⟨w.heap.size, 0, none⟩) n n) (w.alloc (.cells (flatV (List.replicate n noMv)).toArray 43)) := by
  obtain ⟨i0, hi, hz0, hz1, hz2⟩ := info_parts Try.infoMv
  have h := run_make (P := Try.prog) w 37 43 i0 (.agg zeroMv) Try.underlying37 hi hz0 .i64 .i64 (n : Int) (n : Int) (by omega) (by omega) (by rw [hz2]; omega) (by omega)
  rw [h, hz1, Int.toNat_natCast]
  have e : (Value.agg zeroMv).cells = zeroMv := rfl
  rw [e, made_moves]
/-- the block of the Moves, one more stored -/
theorem store_move {w : World} {g i : Nat} {a b : List Mv} {x y : Mv} (h : w.heap[g]? = some (.cells (flatV (a ++ y :: b)).toArray 43 (0, 0))) (hi : a.length = i) :
    ((((w.setCell ⟨g, i * 4, none⟩ (.int .i64 x.node)).setCell ⟨g, i * 4 + 1, none⟩ (.int .i64 x.prep)).setCell ⟨g, i * 4 + 2, none⟩ (.string x.chain)).setCell ⟨g, i * 4 + 3, none⟩ (.int .i64 x.by')).heap[g]? = some (.cells (flatV (a ++ x :: b)).toArray 43 (0, 0)) := by
  have hl : (flatV (a ++ y :: b)).length = (a.length + (b.length + 1)) * 4 := by rw [flatV_length, List.length_append, List.length_cons]
  have h0 := heap_set (j := i * 4) (u := .int .i64 x.node) h (by rw [List.size_toArray, hl]; omega)
  rw [List.set_toArray] at h0
  have h1 := heap_set (j := i * 4 + 1) (u := .int .i64 x.prep) h0 (by rw [List.size_toArray, List.length_set, hl]; omega)
  rw [List.set_toArray] at h1
  have h2 := heap_set (j := i * 4 + 2) (u := .string x.chain) h1 (by rw [List.size_toArray, List.length_set, List.length_set, hl]; omega)
  rw [List.set_toArray] at h2
  have h3 := heap_set (j := i * 4 + 3) (u := .int .i64 x.by') h2 (by rw [List.size_toArray, List.length_set, List.length_set, List.length_set, hl]; omega)
  rw [List.set_toArray, flatV_set a b x y i hi] at h3
  exact h3
theorem moveR_is (x : Mv) (s1 : ByteArray) (sh1 : Bool) (R n : Nat) (node : Int) (s : ByteArray) (sh : Bool) (w : World) (hr : RdAt w R s sh) (hn : n ≤ 1000) (hm : moveB node n s sh = (x, s1, sh1)) :
    Calls Try.prog 67 #[.pointer (some ⟨R, 0, none⟩), .int .i64 node, .int .i64 (n : Int)] w fun e w' => e = .returned (mvV x) ∧ RdAt w' R s1 sh1 ∧ w.grownBy w' (some R) := by
  have h := moveR_any R n node s sh w hr hn
  rw [hm] at h
  exact h

/-- what moves answers: nothing, or a new row -/
def MovesRow (w w' : World) (v : Value) (l : List Mv) : Prop :=
  (l = [] ∧ v = .slice none 0 0) ∨ ∃ g, v = .slice (some ⟨g, 0, none⟩) l.length l.length ∧ w.heap.size ≤ g ∧ w'.heap[g]? = some (.cells (flatV l).toArray 43 (0, 0))

set_option maxRecDepth 100000 in
set_option maxHeartbeats 2000000 in
theorem moves_any (R n k : Nat) (l : List Mv) (s s1 s2 : ByteArray) (sh sh1 sh2 : Bool) (w : World) (hr : RdAt w R s sh) (hn : n ≤ 1000) (hk : numB s sh = ((k : Int), s1, sh1)) (hm : readMoves n k s1 sh1 = (l, s2, sh2)) :
    Calls Try.prog 66 #[.pointer (some ⟨R, 0, none⟩), .int .i64 (n : Int)] w fun e w' => ∃ v, e = .returned v ∧ MovesRow w w' v l ∧ RdAt w' R s2 sh2 ∧ w.grownBy w' (some R) := by
  have hb := numB_bound s sh
  rw [hk] at hb
  dsimp only at hb
  have HK := hide hk
  have HM := hide hm
  have HR := hide hr
  have hlt := hr.lt
  clear hk hm hr
  by_cases h0 : k = 0
  · have k0B : ((k : Int) == 0) = true := by simp [h0]
    have HL : Hid ((([] : List Mv), s1, sh1) = (l, s2, sh2)) := by
      show _ = _
      rw [← HM.out, h0]; rfl
    clear h0
    go_enter Try.func66, Try.ntmps66
    go_wp2_with (go_at_call 64; refine (number_is (k : Int) s1 sh1 R s sh _ HR.out HK.out).mono ?_; rintro e w1 ⟨rfl, hr1, hg1⟩)
    go_ret
    have e := HL.out
    simp only [Prod.mk.injEq] at e
    obtain ⟨rfl, rfl, rfl⟩ := e
    exact ⟨_, rfl, .inl ⟨rfl, rfl⟩, hr1, hg1⟩
  · have k0B : ((k : Int) == 0) = false := beq_eq_false_iff_ne.2 (by omega)
    go_enter Try.func66, Try.ntmps66
    go_wp2_with (go_at_call 64; refine (number_is (k : Int) s1 sh1 R s sh _ HR.out HK.out).mono ?_; rintro e w1 ⟨rfl, hr1, hg1⟩; have hmk := make_moves k (by omega) w1)
    have hx1 := World.alloc_heap_new w1 (.cells (flatV (List.replicate k noMv)).toArray 43 (0, 0))
    have hs1 := hg1.size
    have hg1' : w.grownBy (w1.alloc (.cells (flatV (List.replicate k noMv)).toArray 43 (0, 0))) (some R) := grown_trans hg1 (World.grownBy_alloc _ _ _)
    have HX1 := hide hx1
    clear hx1 hmk
    go_loopw [17] (fun i wr => ∃ (j : Nat) (d : List Mv) (sj : ByteArray) (shj : Bool), j ≤ k ∧ i = .int .i64 (j : Int) ∧ Hid (d.length = j) ∧ RdAt wr R sj shj ∧ Hid ((l, s2, sh2) = (d ++ (readMoves n (k - j) sj shj).1, (readMoves n (k - j) sj shj).2)) ∧ Hid (wr.heap[w1.heap.size]? = some (.cells (flatV (d ++ List.replicate (k - j) noMv)).toArray 43 (0, 0))) ∧ w.grownBy wr (some R)) (fun i _ => k - (intOf i).toNat)
    case atStart => exact ⟨0, [], s1, sh1, by omega, rfl, rfl, hr1.alloc, by rw [Nat.sub_zero, HM.out]; rfl, HX1.out, hg1'⟩
    case round =>
      obtain ⟨j, d, sj, shj, hj, rfl, hd, hrj, hrd, hx, hgj⟩ := hrel
      by_cases hlt2 : j < k
      · obtain ⟨nd, sa, sha, ha⟩ : ∃ nd sa sha, numB sj shj = (nd, sa, sha) := ⟨_, _, _, rfl⟩
        obtain ⟨x, sb, shb, hbm⟩ : ∃ x sb shb, moveB nd n sa sha = (x, sb, shb) := ⟨_, _, _, rfl⟩
        have hstep : Hid (readMoves n (k - j) sj shj = (x :: (readMoves n (k - (j + 1)) sb shb).1, (readMoves n (k - (j + 1)) sb shb).2)) := by
          show _ = _
          rw [show k - j = (k - (j + 1)) + 1 by omega, readMoves, ha]
          dsimp only
          rw [hbm]
        have hx0 := hx.out
        rw [show k - j = (k - (j + 1)) + 1 by omega, List.replicate_succ] at hx0
        have HX := hide hx0
        have HA := hide ha
        have HBM := hide hbm
        have HRJ := hide hrj
        clear hx0 ha hbm hrj
        have i0 : (0 : Int) ≤ (j : Int) := by omega
        have i1 : (j : Int) < (k : Int) := by omega
        obtain ⟨xn, xp, xc, xb⟩ := x
        go_wp2_with (first
          | (go_at_call 64; refine (number_is nd sa sha R sj shj _ HRJ.out HA.out).mono ?_; rintro e w2 ⟨rfl, hr2, hg2⟩; have x2 := hide (heap_grown hg2 HX.out (by omega)))
          | (go_at_call 67; refine (moveR_is ⟨xn, xp, xc, xb⟩ sb shb R n nd sa sha _ hr2 hn HBM.out).mono ?_; rintro e w3 ⟨rfl, hr3, hg3⟩; have x3 := heap_grown hg3 x2.out (by omega); have q := flatV_get d (List.replicate (k - (j + 1)) noMv) noMv j hd.out; have q0 := box_read (i := j * 4) x3 (by simpa using q.1); have q1 := box_read (i := j * 4 + 1) x3 (by simpa using q.2.1); have q2 := box_read (i := j * 4 + 2) x3 (by simpa using q.2.2.1); have q3 := box_read (i := j * 4 + 3) x3 (by simpa using q.2.2.2); have e0 := free_of (j := j * 4) x3; have e1 := free_of (j := j * 4 + 1) x3; have e2 := free_of (j := j * 4 + 2) x3; have e3 := free_of (j := j * 4 + 3) x3; have ST := hide (store_move (x := ⟨xn, xp, xc, xb⟩) x3 hd.out); clear q x3))
        have hne : w1.heap.size ≠ R := by omega
        refine ⟨⟨j + 1, d ++ [⟨xn, xp, xc, xb⟩], sb, shb, by omega, by go_num, ?_, (((hr3.set hne).set hne).set hne).set hne, ?_, ?_, ?_⟩, by simp [intOf]; omega⟩
        · show _ = _
          rw [List.length_append, hd.out]; rfl
        · show _ = _
          rw [hrd.out, hstep.out, List.append_assoc]; rfl
        · show _ = _
          rw [List.append_assoc]
          exact ST.out
        · exact grown_set (grown_set (grown_set (grown_set (grown_trans (grown_trans hgj hg2) hg3) hs1) hs1) hs1) hs1
      · go_wp2
        go_ret
        have e := hrd.out
        have hx0 := hx.out
        have e0 : k - j = 0 := by omega
        rw [e0] at e hx0
        rw [List.replicate_zero, List.append_nil] at hx0
        simp only [readMoves, List.append_nil, Prod.mk.injEq] at e
        obtain ⟨rfl, rfl, rfl⟩ := e
        have hdk : l.length = k := by have := hd.out; omega
        refine ⟨_, rfl, .inr ⟨w1.heap.size, ?_, hs1, hx0⟩, hrj, hgj⟩
        rw [hdk]
        rfl
end Go.Proofs.Ytpecfjejfkcolaa
