import Derived.Test.YtlkhmldceekdaaaPart7
import Derived.Deep.RegionWith
/- wire's reader: message, Propose. -/
namespace Go.Proofs.Ytlkhmldceekdaaa
open Go.RowKit Go.Shelf
set_option linter.unusedVariables false
theorem MovesRow.slice {w w' : World} {v : Value} {l : List Mv} (h : MovesRow w w' v l) : ∃ ao ln, v = .slice ao ln ln := by
  rcases h with ⟨_, rfl⟩ | ⟨g, rfl, _⟩
  · exact ⟨_, _, rfl⟩
  · exact ⟨_, _, rfl⟩
theorem MovesRow.mono {w W w6 w' : World} {v : Value} {l : List Mv} (h : MovesRow W w6 v l) (hs : w.heap.size ≤ W.heap.size) (hk : ∀ g o, W.heap.size ≤ g → w6.heap[g]? = some o → w'.heap[g]? = some o) : MovesRow w w' v l := by
  rcases h with h | ⟨g, e, h1, h2⟩
  · exact .inl h
  · exact .inr ⟨g, e, Nat.le_trans hs h1, hk g _ h1 h2⟩

set_option maxRecDepth 100000 in
set_option maxHeartbeats 4000000 in
theorem msg1 (R n : Nat) (k f h r : Int) (s s1 s2 s3 s4 : ByteArray) (sh sh1 sh2 sh3 sh4 : Bool) (s5 : ByteArray) (sh5 : Bool) (c : ByteArray) (s6 : ByteArray) (sh6 : Bool) (s7 : ByteArray) (sh7 : Bool) (cnt : Nat) (l : List Mv) (w : World) (hr : RdAt w R s sh) (h1 : numB s sh = (k, s1, sh1)) (h2 : numB s1 sh1 = (f, s2, sh2)) (h3 : numB s2 sh2 = (h, s3, sh3)) (h4 : numB s3 sh3 = (r, s4, sh4)) (hz : h * 3 = (n : Int)) (hn : n ≤ 1000) (hh : 0 ≤ h ∧ h ≤ 255) (h5 : textB n s4 sh4 = (c, s5, sh5)) (h6 : numB s5 sh5 = ((cnt : Int), s6, sh6)) (h7 : readMoves n cnt s6 sh6 = (l, s7, sh7)) (hk : k = 1) :
    Calls Try.prog 52 #[.pointer (some ⟨R, 0, none⟩)] w fun e w' => ∃ v, e = .returned (mgV ⟨k, f, h, r, c, -1, 0, l⟩ v) ∧ MovesRow w w' v l ∧ RdAt w' R s7 sh7 ∧ w.grownBy w' (some R) := by
  have H1 := hide h1
  have H2 := hide h2
  have H3 := hide h3
  have H4 := hide h4
  have H5 := hide h5
  clear h5
  have H6 := hide h6
  have H7 := hide h7
  clear h6 h7
  have HR := hide hr
  have hlt := hr.lt
  have hA := World.alloc_heap_new w (.cells #[.int .i64 0, .int .i64 0, .int .i64 0, .int .i64 0, .string ⟨#[]⟩, .int .i64 0, .int .i64 0, .slice none 0 0] 39 (0, 0))
  have hB : ((w.alloc (.cells #[.int .i64 0, .int .i64 0, .int .i64 0, .int .i64 0, .string ⟨#[]⟩, .int .i64 0, .int .i64 0, .slice none 0 0] 39)).alloc (.cells #[.int .i64 0, .int .i64 0, .int .i64 0, .int .i64 0, .string ⟨#[]⟩, .int .i64 (-1), .int .i64 0, .slice none 0 0] 39)).heap[w.heap.size + 1]? = some (.cells #[.int .i64 0, .int .i64 0, .int .i64 0, .int .i64 0, .string ⟨#[]⟩, .int .i64 (-1), .int .i64 0, .slice none 0 0] 39 (0, 0)) := by
    have := World.alloc_heap_new (w.alloc (.cells #[.int .i64 0, .int .i64 0, .int .i64 0, .int .i64 0, .string ⟨#[]⟩, .int .i64 0, .int .i64 0, .slice none 0 0] 39)) (.cells #[.int .i64 0, .int .i64 0, .int .i64 0, .int .i64 0, .string ⟨#[]⟩, .int .i64 (-1), .int .i64 0, .slice none 0 0] 39 (0, 0))
    rw [World.size_alloc] at this
    exact this
  have HA := hide hA
  have HB := hide hB
  clear h1 h2 h3 h4 hr hA hB
  have k1 : (k == 1) = true := beq_iff_eq.2 hk
  clear hk
  go_enter Try.func52, Try.ntmps52
  go_wp2_with (first
    | (go_at_call 66; refine (moves_any R n cnt l s5 s6 s7 sh5 sh6 sh7 _ (hr5.set (by omega)) hn H6.out H7.out).mono ?_; rintro e w6 ⟨v, rfl, hrow, hr6, hg6⟩; obtain ⟨ao, ln, rfl⟩ := hrow.slice; have HROW := hide hrow; clear hrow; have n6 := hg6.size; have m6 := heap_grown hg6 m5' (by omega); have a6 := heap_grown hg6 a5' (by omega); have p6 := box_read (i := 7) m6 rfl; have q6 := free_of (j := 7) m6; have m6' : (w6.setCell ⟨w.heap.size + 1, 7, none⟩ (.slice ao ln ln)).heap[w.heap.size + 1]? = some (.cells #[.int .i64 k, .int .i64 f, .int .i64 h, .int .i64 r, .string c, .int .i64 (-1), .int .i64 0, .slice ao ln ln] 39 (0, 0)) := heap_set (j := 7) (u := .slice ao ln ln) m6 (by simp); have a6' := heap_other (k := w.heap.size + 1) (j := 7) (u := .slice ao ln ln) a6 (by omega); have u0 := box_read (i := 0) m6' rfl; have t0 := box_read (i := 0) a6' rfl; have e0 := free_of (j := 0) a6'; have u1 := box_read (i := 1) m6' rfl; have t1 := box_read (i := 1) a6' rfl; have e1 := free_of (j := 1) a6'; have u2 := box_read (i := 2) m6' rfl; have t2 := box_read (i := 2) a6' rfl; have e2 := free_of (j := 2) a6'; have u3 := box_read (i := 3) m6' rfl; have t3 := box_read (i := 3) a6' rfl; have e3 := free_of (j := 3) a6'; have u4 := box_read (i := 4) m6' rfl; have t4 := box_read (i := 4) a6' rfl; have e4 := free_of (j := 4) a6'; have u5 := box_read (i := 5) m6' rfl; have t5 := box_read (i := 5) a6' rfl; have e5 := free_of (j := 5) a6'; have u6 := box_read (i := 6) m6' rfl; have t6 := box_read (i := 6) a6' rfl; have e6 := free_of (j := 6) a6'; have u7 := box_read (i := 7) m6' rfl; have t7 := box_read (i := 7) a6' rfl; have e7 := free_of (j := 7) a6')
    | (go_at_call 65; refine (text_is c s5 sh5 R n s4 sh4 _ (hr4.set (by omega)) hn H5.out).mono ?_; rintro e w5 ⟨rfl, hr5, hg5⟩; have n5 := hg5.size; have m5 := heap_grown hg5 m4' (by omega); have a5 := heap_grown hg5 a4' (by omega); have p5 := box_read (i := 4) m5 rfl; have q5 := free_of (j := 4) m5; have m5' : (w5.setCell ⟨w.heap.size + 1, 4, none⟩ (.string c)).heap[w.heap.size + 1]? = some (.cells #[.int .i64 k, .int .i64 f, .int .i64 h, .int .i64 r, .string c, .int .i64 (-1), .int .i64 0, .slice none 0 0] 39 (0, 0)) := heap_set (j := 4) (u := .string c) m5 (by simp); have a5' := heap_other (k := w.heap.size + 1) (j := 4) (u := .string c) a5 (by omega))
    | (go_at_call 64; refine (number_is r s4 sh4 R s3 sh3 _ (hr3.set (by omega)) H4.out).mono ?_; rintro e w4 ⟨rfl, hr4, hg4⟩; have n4 := hg4.size; have m4 := heap_grown hg4 m3' (by omega); have a4 := heap_grown hg4 a3' (by omega); have p4 := box_read (i := 3) m4 rfl; have q4 := free_of (j := 3) m4; have m4' : (w4.setCell ⟨w.heap.size + 1, 3, none⟩ (.int .i64 r)).heap[w.heap.size + 1]? = some (.cells #[.int .i64 k, .int .i64 f, .int .i64 h, .int .i64 r, .string ⟨#[]⟩, .int .i64 (-1), .int .i64 0, .slice none 0 0] 39 (0, 0)) := heap_set (j := 3) (u := .int .i64 r) m4 (by simp); have a4' := heap_other (k := w.heap.size + 1) (j := 3) (u := .int .i64 r) a4 (by omega); have y0 := box_read (i := 0) m4' rfl; have y1 := box_read (i := 1) m4' rfl; have y2 := box_read (i := 2) m4' rfl)
    | (go_at_call 64; refine (number_is h s3 sh3 R s2 sh2 _ (hr2.set (by omega)) H3.out).mono ?_; rintro e w3 ⟨rfl, hr3, hg3⟩; have n3 := hg3.size; have m3 := heap_grown hg3 m2' (by omega); have a3 := heap_grown hg3 a2' (by omega); have p3 := box_read (i := 2) m3 rfl; have q3 := free_of (j := 2) m3; have m3' : (w3.setCell ⟨w.heap.size + 1, 2, none⟩ (.int .i64 h)).heap[w.heap.size + 1]? = some (.cells #[.int .i64 k, .int .i64 f, .int .i64 h, .int .i64 0, .string ⟨#[]⟩, .int .i64 (-1), .int .i64 0, .slice none 0 0] 39 (0, 0)) := heap_set (j := 2) (u := .int .i64 h) m3 (by simp); have a3' := heap_other (k := w.heap.size + 1) (j := 2) (u := .int .i64 h) a3 (by omega))
    | (go_at_call 64; refine (number_is f s2 sh2 R s1 sh1 _ (hr1.set (by omega)) H2.out).mono ?_; rintro e w2 ⟨rfl, hr2, hg2⟩; have n2 := hg2.size; have m2 := heap_grown hg2 m1' (by omega); have a2 := heap_grown hg2 a1' (by omega); have p2 := box_read (i := 1) m2 rfl; have q2 := free_of (j := 1) m2; have m2' : (w2.setCell ⟨w.heap.size + 1, 1, none⟩ (.int .i64 f)).heap[w.heap.size + 1]? = some (.cells #[.int .i64 k, .int .i64 f, .int .i64 0, .int .i64 0, .string ⟨#[]⟩, .int .i64 (-1), .int .i64 0, .slice none 0 0] 39 (0, 0)) := heap_set (j := 1) (u := .int .i64 f) m2 (by simp); have a2' := heap_other (k := w.heap.size + 1) (j := 1) (u := .int .i64 f) a2 (by omega))
    | (go_at_call 64; refine (number_is k s1 sh1 R s sh _ (HR.out.alloc.alloc) H1.out).mono ?_; rintro e w1 ⟨rfl, hr1, hg1⟩; have n1 := hg1.size; rw [World.size_alloc, World.size_alloc] at n1; have m1 := heap_grown hg1 HB.out (by omega); have a1 := heap_grown hg1 (box_alloc HA.out) (by omega); have p1 := box_read (i := 0) m1 rfl; have q1 := free_of (j := 0) m1; have m1' : (w1.setCell ⟨w.heap.size + 1, 0, none⟩ (.int .i64 k)).heap[w.heap.size + 1]? = some (.cells #[.int .i64 k, .int .i64 0, .int .i64 0, .int .i64 0, .string ⟨#[]⟩, .int .i64 (-1), .int .i64 0, .slice none 0 0] 39 (0, 0)) := heap_set (j := 0) (u := .int .i64 k) m1 (by simp); have a1' := heap_other (k := w.heap.size + 1) (j := 0) (u := .int .i64 k) a1 (by omega)))
  refine bodyPost_ret (v := mgV ⟨k, f, h, r, c, -1, 0, l⟩ (.slice ao ln ln)) (by simp [results, Try.results52, go_sem, t0, t1, t2, t3, t4, t5, t6, t7]) rfl ?_
  have G1 := grown_alloc (grown_alloc hg1)
  have G2 := grown_trans (grown_set (k := w.heap.size + 1) (j := 0) (u := .int .i64 k) G1 (by omega)) hg2
  have G3 := grown_trans (grown_set (k := w.heap.size + 1) (j := 1) (u := .int .i64 f) G2 (by omega)) hg3
  have G4 := grown_trans (grown_set (k := w.heap.size + 1) (j := 2) (u := .int .i64 h) G3 (by omega)) hg4
  have G5 := grown_trans (grown_set (k := w.heap.size + 1) (j := 3) (u := .int .i64 r) G4 (by omega)) hg5
  have G6 := grown_trans (grown_set (k := w.heap.size + 1) (j := 4) (u := .string c) G5 (by omega)) hg6
  have RD := ((((((((hr6.set (k := w.heap.size + 1) (j := 7) (u := .slice ao ln ln) (by omega)).set (k := w.heap.size) (j := 0) (u := .int .i64 k) (by omega)).set (k := w.heap.size) (j := 1) (u := .int .i64 f) (by omega)).set (k := w.heap.size) (j := 2) (u := .int .i64 h) (by omega)).set (k := w.heap.size) (j := 3) (u := .int .i64 r) (by omega)).set (k := w.heap.size) (j := 4) (u := .string c) (by omega)).set (k := w.heap.size) (j := 5) (u := .int .i64 (-1)) (by omega)).set (k := w.heap.size) (j := 6) (u := .int .i64 0) (by omega)).set (k := w.heap.size) (j := 7) (u := .slice ao ln ln) (by omega)
  have GG := grown_set (k := w.heap.size) (j := 7) (u := .slice ao ln ln) (grown_set (k := w.heap.size) (j := 6) (u := .int .i64 0) (grown_set (k := w.heap.size) (j := 5) (u := .int .i64 (-1)) (grown_set (k := w.heap.size) (j := 4) (u := .string c) (grown_set (k := w.heap.size) (j := 3) (u := .int .i64 r) (grown_set (k := w.heap.size) (j := 2) (u := .int .i64 h) (grown_set (k := w.heap.size) (j := 1) (u := .int .i64 f) (grown_set (k := w.heap.size) (j := 0) (u := .int .i64 k) (grown_set (k := w.heap.size + 1) (j := 7) (u := .slice ao ln ln) G6 (by omega)) (Nat.le_refl _)) (Nat.le_refl _)) (Nat.le_refl _)) (Nat.le_refl _)) (Nat.le_refl _)) (Nat.le_refl _)) (Nat.le_refl _)) (Nat.le_refl _)
  refine ⟨_, rfl, HROW.out.mono ?_ ?_, RD, GG⟩
  · exact Nat.le_trans (by have := G5.size; exact this) (grownBy_setCellAt _ _ _ _).size
  · intro g o hg ho
    have hz5 := G5.size
    have hz6 : w5.heap.size ≤ g := Nat.le_trans (grownBy_setCellAt _ _ _ _).size hg
    have hm5 := lt_of_block m5
    exact heap_other (heap_other (heap_other (heap_other (heap_other (heap_other (heap_other (heap_other (heap_other ho (by omega)) (by omega)) (by omega)) (by omega)) (by omega)) (by omega)) (by omega)) (by omega)) (by omega)
end Go.Proofs.Ytlkhmldceekdaaa

/- wire's reader: message, Change. -/
namespace Go.Proofs.Ytlkhmldceekdaaa
open Go.RowKit Go.Shelf
set_option linter.unusedVariables false
theorem grown_drew {a b : World} {row : Option Nat} (h : a.grownBy b row) : a.grownBy b.drew row := ⟨h.os, h.tape, h.output, h.size, h.block⟩
theorem RdAt.drew {w : World} {R : Nat} {s : ByteArray} {sh : Bool} (h : RdAt w R s sh) : RdAt w.drew R s sh := h

set_option maxRecDepth 100000 in
set_option maxHeartbeats 4000000 in
theorem msg4 (R n : Nat) (k f h r : Int) (s s1 s2 s3 s4 : ByteArray) (sh sh1 sh2 sh3 sh4 : Bool) (s5 : ByteArray) (sh5 : Bool) (xn xp xb : Int) (xc : ByteArray) (w : World) (hr : RdAt w R s sh) (h1 : numB s sh = (k, s1, sh1)) (h2 : numB s1 sh1 = (f, s2, sh2)) (h3 : numB s2 sh2 = (h, s3, sh3)) (h4 : numB s3 sh3 = (r, s4, sh4)) (hz : h * 3 = (n : Int)) (hn : n ≤ 1000) (hh : 0 ≤ h ∧ h ≤ 255) (h5 : moveB f n s4 sh4 = (⟨xn, xp, xc, xb⟩, s5, sh5)) (hk : k = 4) :
    Calls Try.prog 52 #[.pointer (some ⟨R, 0, none⟩)] w fun e w' => e = .returned (mgV ⟨k, f, h, r, xc, xp, xb, []⟩ (.slice none 0 0)) ∧ RdAt w' R s5 sh5 ∧ w.grownBy w' (some R) := by
  have H1 := hide h1
  have H2 := hide h2
  have H3 := hide h3
  have H4 := hide h4
  have H5 := hide h5
  clear h5
  have HR := hide hr
  have hlt := hr.lt
  have hA := World.alloc_heap_new w (.cells #[.int .i64 0, .int .i64 0, .int .i64 0, .int .i64 0, .string ⟨#[]⟩, .int .i64 0, .int .i64 0, .slice none 0 0] 39 (0, 0))
  have hB : ((w.alloc (.cells #[.int .i64 0, .int .i64 0, .int .i64 0, .int .i64 0, .string ⟨#[]⟩, .int .i64 0, .int .i64 0, .slice none 0 0] 39)).alloc (.cells #[.int .i64 0, .int .i64 0, .int .i64 0, .int .i64 0, .string ⟨#[]⟩, .int .i64 (-1), .int .i64 0, .slice none 0 0] 39)).heap[w.heap.size + 1]? = some (.cells #[.int .i64 0, .int .i64 0, .int .i64 0, .int .i64 0, .string ⟨#[]⟩, .int .i64 (-1), .int .i64 0, .slice none 0 0] 39 (0, 0)) := by
    have := World.alloc_heap_new (w.alloc (.cells #[.int .i64 0, .int .i64 0, .int .i64 0, .int .i64 0, .string ⟨#[]⟩, .int .i64 0, .int .i64 0, .slice none 0 0] 39)) (.cells #[.int .i64 0, .int .i64 0, .int .i64 0, .int .i64 0, .string ⟨#[]⟩, .int .i64 (-1), .int .i64 0, .slice none 0 0] 39 (0, 0))
    rw [World.size_alloc] at this
    exact this
  have HA := hide hA
  have HB := hide hB
  clear h1 h2 h3 h4 hr hA hB
  have k1 : (k == 1) = false := beq_eq_false_iff_ne.2 (by omega)
  have k2 : (k == 2) = false := beq_eq_false_iff_ne.2 (by omega)
  have k3 : (k == 3) = false := beq_eq_false_iff_ne.2 (by omega)
  have k4 : (k == 4) = true := beq_iff_eq.2 hk
  clear hk
  go_enter Try.func52, Try.ntmps52
  go_wp2_with (first
    | (go_at_call 67; refine (moveR_is ⟨xn, xp, xc, xb⟩ s5 sh5 R n f s4 sh4 _ (hr4.set (by omega)) hn H5.out).mono ?_; rintro e w5 ⟨rfl, hr5, hg5⟩; have n5 := hg5.size; have m5 := heap_grown hg5 m4' (by omega); have a5 := heap_grown hg5 a4' (by omega))
    | (go_at_call 64; refine (number_is r s4 sh4 R s3 sh3 _ (hr3.set (by omega)) H4.out).mono ?_; rintro e w4 ⟨rfl, hr4, hg4⟩; have n4 := hg4.size; have m4 := heap_grown hg4 m3' (by omega); have a4 := heap_grown hg4 a3' (by omega); have p4 := box_read (i := 3) m4 rfl; have q4 := free_of (j := 3) m4; have m4' : (w4.setCell ⟨w.heap.size + 1, 3, none⟩ (.int .i64 r)).heap[w.heap.size + 1]? = some (.cells #[.int .i64 k, .int .i64 f, .int .i64 h, .int .i64 r, .string ⟨#[]⟩, .int .i64 (-1), .int .i64 0, .slice none 0 0] 39 (0, 0)) := heap_set (j := 3) (u := .int .i64 r) m4 (by simp); have a4' := heap_other (k := w.heap.size + 1) (j := 3) (u := .int .i64 r) a4 (by omega); have y0 := box_read (i := 0) m4' rfl; have y1 := box_read (i := 1) m4' rfl; have y2 := box_read (i := 2) m4' rfl)
    | (go_at_call 64; refine (number_is h s3 sh3 R s2 sh2 _ (hr2.set (by omega)) H3.out).mono ?_; rintro e w3 ⟨rfl, hr3, hg3⟩; have n3 := hg3.size; have m3 := heap_grown hg3 m2' (by omega); have a3 := heap_grown hg3 a2' (by omega); have p3 := box_read (i := 2) m3 rfl; have q3 := free_of (j := 2) m3; have m3' : (w3.setCell ⟨w.heap.size + 1, 2, none⟩ (.int .i64 h)).heap[w.heap.size + 1]? = some (.cells #[.int .i64 k, .int .i64 f, .int .i64 h, .int .i64 0, .string ⟨#[]⟩, .int .i64 (-1), .int .i64 0, .slice none 0 0] 39 (0, 0)) := heap_set (j := 2) (u := .int .i64 h) m3 (by simp); have a3' := heap_other (k := w.heap.size + 1) (j := 2) (u := .int .i64 h) a3 (by omega))
    | (go_at_call 64; refine (number_is f s2 sh2 R s1 sh1 _ (hr1.set (by omega)) H2.out).mono ?_; rintro e w2 ⟨rfl, hr2, hg2⟩; have n2 := hg2.size; have m2 := heap_grown hg2 m1' (by omega); have a2 := heap_grown hg2 a1' (by omega); have p2 := box_read (i := 1) m2 rfl; have q2 := free_of (j := 1) m2; have m2' : (w2.setCell ⟨w.heap.size + 1, 1, none⟩ (.int .i64 f)).heap[w.heap.size + 1]? = some (.cells #[.int .i64 k, .int .i64 f, .int .i64 0, .int .i64 0, .string ⟨#[]⟩, .int .i64 (-1), .int .i64 0, .slice none 0 0] 39 (0, 0)) := heap_set (j := 1) (u := .int .i64 f) m2 (by simp); have a2' := heap_other (k := w.heap.size + 1) (j := 1) (u := .int .i64 f) a2 (by omega))
    | (go_at_call 64; refine (number_is k s1 sh1 R s sh _ (HR.out.alloc.alloc) H1.out).mono ?_; rintro e w1 ⟨rfl, hr1, hg1⟩; have n1 := hg1.size; rw [World.size_alloc, World.size_alloc] at n1; have m1 := heap_grown hg1 HB.out (by omega); have a1 := heap_grown hg1 (box_alloc HA.out) (by omega); have p1 := box_read (i := 0) m1 rfl; have q1 := free_of (j := 0) m1; have m1' : (w1.setCell ⟨w.heap.size + 1, 0, none⟩ (.int .i64 k)).heap[w.heap.size + 1]? = some (.cells #[.int .i64 k, .int .i64 0, .int .i64 0, .int .i64 0, .string ⟨#[]⟩, .int .i64 (-1), .int .i64 0, .slice none 0 0] 39 (0, 0)) := heap_set (j := 0) (u := .int .i64 k) m1 (by simp); have a1' := heap_other (k := w.heap.size + 1) (j := 0) (u := .int .i64 k) a1 (by omega)))
  have m6 := box_alloc (o' := .cells #[.int .i64 xn, .int .i64 xp, .string xc, .int .i64 xb] 43) m5
  have a6 := box_alloc (o' := .cells #[.int .i64 xn, .int .i64 xp, .string xc, .int .i64 xb] 43) a5
  have x6 := World.alloc_heap_new w5 (.cells #[.int .i64 xn, .int .i64 xp, .string xc, .int .i64 xb] 43 (0, 0))
  have hr6 := hr5.alloc (o := .cells #[.int .i64 xn, .int .i64 xp, .string xc, .int .i64 xb] 43)
  have G6 := World.grownBy_alloc w5 (.cells #[.int .i64 xn, .int .i64 xp, .string xc, .int .i64 xb] 43) (some R)
  have l5 := lt_of_block m5
  obtain ⟨w6, hw6⟩ : ∃ w6, w6 = w5.alloc (.cells #[.int .i64 xn, .int .i64 xp, .string xc, .int .i64 xb] 43) := ⟨_, rfl⟩
  rw [← hw6] at m6 a6 x6 hr6 G6 ⊢
  clear hw6
  have x1 := box_read (i := 1) x6 rfl
  have x2 := box_read (i := 2) x6 rfl
  have x3 := box_read (i := 3) x6 rfl
  have u4 := box_read (i := 4) m6 rfl
  have u5 := box_read (i := 5) m6 rfl
  have u6 := box_read (i := 6) m6 rfl
  have v4 := free_of (j := 4) m6
  have v5 := free_of (j := 5) m6
  have v6 := free_of (j := 6) m6
  have ne1 : ¬ w5.heap.size = w.heap.size + 1 := by omega
  have ne2 : ¬ w.heap.size + 1 = w5.heap.size := by omega
  go_region
  have m7 : (w6.setCell ⟨w.heap.size + 1, 5, none⟩ (.int .i64 xp)).heap[w.heap.size + 1]? = some (.cells #[.int .i64 k, .int .i64 f, .int .i64 h, .int .i64 r, .string ⟨#[]⟩, .int .i64 xp, .int .i64 0, .slice none 0 0] 39 (0, 0)) := heap_set (j := 5) m6 (by simp)
  have m8 : ((w6.setCell ⟨w.heap.size + 1, 5, none⟩ (.int .i64 xp)).setCell ⟨w.heap.size + 1, 4, none⟩ (.string xc)).heap[w.heap.size + 1]? = some (.cells #[.int .i64 k, .int .i64 f, .int .i64 h, .int .i64 r, .string xc, .int .i64 xp, .int .i64 0, .slice none 0 0] 39 (0, 0)) := heap_set (j := 4) m7 (by simp)
  have m9 : (((w6.setCell ⟨w.heap.size + 1, 5, none⟩ (.int .i64 xp)).setCell ⟨w.heap.size + 1, 4, none⟩ (.string xc)).setCell ⟨w.heap.size + 1, 6, none⟩ (.int .i64 xb)).heap[w.heap.size + 1]? = some (.cells #[.int .i64 k, .int .i64 f, .int .i64 h, .int .i64 r, .string xc, .int .i64 xp, .int .i64 xb, .slice none 0 0] 39 (0, 0)) := heap_set (j := 6) m8 (by simp)
  have a9 := heap_other (k := w.heap.size + 1) (j := 6) (u := .int .i64 xb) (heap_other (k := w.heap.size + 1) (j := 4) (u := .string xc) (heap_other (k := w.heap.size + 1) (j := 5) (u := .int .i64 xp) a6 (by omega)) (by omega)) (by omega)
  have hr9 := (((hr6.set (k := w.heap.size + 1) (j := 5) (u := .int .i64 xp) (by omega)).set (k := w.heap.size + 1) (j := 4) (u := .string xc) (by omega)).set (k := w.heap.size + 1) (j := 6) (u := .int .i64 xb) (by omega)).drew
  have G1 := grown_alloc (grown_alloc hg1)
  have G2 := grown_trans (grown_set (k := w.heap.size + 1) (j := 0) (u := .int .i64 k) G1 (by omega)) hg2
  have G3 := grown_trans (grown_set (k := w.heap.size + 1) (j := 1) (u := .int .i64 f) G2 (by omega)) hg3
  have G4 := grown_trans (grown_set (k := w.heap.size + 1) (j := 2) (u := .int .i64 h) G3 (by omega)) hg4
  have G5 := grown_trans (grown_set (k := w.heap.size + 1) (j := 3) (u := .int .i64 r) G4 (by omega)) hg5
  have G9 := grown_drew (grown_set (k := w.heap.size + 1) (j := 6) (u := .int .i64 xb) (grown_set (k := w.heap.size + 1) (j := 4) (u := .string xc) (grown_set (k := w.heap.size + 1) (j := 5) (u := .int .i64 xp) (grown_trans G5 G6) (by omega)) (by omega)) (by omega))
  obtain ⟨w9, hw9⟩ : ∃ w9, w9 = (((w6.setCell ⟨w.heap.size + 1, 5, none⟩ (.int .i64 xp)).setCell ⟨w.heap.size + 1, 4, none⟩ (.string xc)).setCell ⟨w.heap.size + 1, 6, none⟩ (.int .i64 xb)).drew := ⟨_, rfl⟩
  have m10 : w9.heap[w.heap.size + 1]? = some (.cells #[.int .i64 k, .int .i64 f, .int .i64 h, .int .i64 r, .string xc, .int .i64 xp, .int .i64 xb, .slice none 0 0] 39 (0, 0)) := by rw [hw9]; exact m9
  have a10 : w9.heap[w.heap.size]? = some (.cells #[.int .i64 0, .int .i64 0, .int .i64 0, .int .i64 0, .string ⟨#[]⟩, .int .i64 0, .int .i64 0, .slice none 0 0] 39 (0, 0)) := by rw [hw9]; exact a9
  rw [← hw9] at hr9 G9 ⊢
  clear hw9
  have c0 := box_read (i := 0) m10 rfl
  have t0 := box_read (i := 0) a10 rfl
  have e0 := free_of (j := 0) a10
  have c1 := box_read (i := 1) m10 rfl
  have t1 := box_read (i := 1) a10 rfl
  have e1 := free_of (j := 1) a10
  have c2 := box_read (i := 2) m10 rfl
  have t2 := box_read (i := 2) a10 rfl
  have e2 := free_of (j := 2) a10
  have c3 := box_read (i := 3) m10 rfl
  have t3 := box_read (i := 3) a10 rfl
  have e3 := free_of (j := 3) a10
  have c4 := box_read (i := 4) m10 rfl
  have t4 := box_read (i := 4) a10 rfl
  have e4 := free_of (j := 4) a10
  have c5 := box_read (i := 5) m10 rfl
  have t5 := box_read (i := 5) a10 rfl
  have e5 := free_of (j := 5) a10
  have c6 := box_read (i := 6) m10 rfl
  have t6 := box_read (i := 6) a10 rfl
  have e6 := free_of (j := 6) a10
  have c7 := box_read (i := 7) m10 rfl
  have t7 := box_read (i := 7) a10 rfl
  have e7 := free_of (j := 7) a10
  go_wp2
  refine bodyPost_ret (v := mgV ⟨k, f, h, r, xc, xp, xb, []⟩ (.slice none 0 0)) (by simp [results, Try.results52, go_sem, t0, t1, t2, t3, t4, t5, t6, t7]) rfl ?_
  exact ⟨rfl, ((((((((hr9.set (k := w.heap.size) (j := 0) (u := .int .i64 k) (by omega)).set (k := w.heap.size) (j := 1) (u := .int .i64 f) (by omega)).set (k := w.heap.size) (j := 2) (u := .int .i64 h) (by omega)).set (k := w.heap.size) (j := 3) (u := .int .i64 r) (by omega)).set (k := w.heap.size) (j := 4) (u := .string xc) (by omega)).set (k := w.heap.size) (j := 5) (u := .int .i64 xp) (by omega)).set (k := w.heap.size) (j := 6) (u := .int .i64 xb) (by omega)).set (k := w.heap.size) (j := 7) (u := .slice none 0 0) (by omega)), (grown_set (k := w.heap.size) (j := 7) (u := .slice none 0 0) (grown_set (k := w.heap.size) (j := 6) (u := .int .i64 xb) (grown_set (k := w.heap.size) (j := 5) (u := .int .i64 xp) (grown_set (k := w.heap.size) (j := 4) (u := .string xc) (grown_set (k := w.heap.size) (j := 3) (u := .int .i64 r) (grown_set (k := w.heap.size) (j := 2) (u := .int .i64 h) (grown_set (k := w.heap.size) (j := 1) (u := .int .i64 f) (grown_set (k := w.heap.size) (j := 0) (u := .int .i64 k) G9 (Nat.le_refl _)) (Nat.le_refl _)) (Nat.le_refl _)) (Nat.le_refl _)) (Nat.le_refl _)) (Nat.le_refl _)) (Nat.le_refl _)) (Nat.le_refl _))⟩
end Go.Proofs.Ytlkhmldceekdaaa

/- wire.Decode. -/
namespace Go.Proofs.Ytlkhmldceekdaaa
open Go.RowKit Go.Shelf
set_option linter.unusedVariables false

/-- a message from the front, by its kind -/
def readBody (k f h r : Int) (n : Nat) (s : ByteArray) (sh : Bool) : Mg × ByteArray × Bool :=
  if k = 1 then
    let t := textB n s sh
    let u := numB t.2.1 t.2.2
    let l := readMoves n u.1.toNat u.2.1 u.2.2
    (⟨k, f, h, r, t.1, -1, 0, l.1⟩, l.2)
  else if k = 2 ∨ k = 3 then
    let t := textB n s sh
    (⟨k, f, h, r, t.1, -1, 0, []⟩, t.2)
  else if k = 4 then
    let x := moveB f n s sh
    (⟨k, f, h, r, x.1.chain, x.1.prep, x.1.by', []⟩, x.2)
  else if k = 5 then
    let t := textB n s sh
    let u := numB t.2.1 t.2.2
    (⟨k, f, h, r, t.1, -1, u.1, []⟩, u.2)
  else (⟨k, f, h, r, ⟨#[]⟩, -1, 0, []⟩, s, sh)
def readMsg (s : ByteArray) (sh : Bool) : Mg × ByteArray × Bool :=
  let a := numB s sh
  let b := numB a.2.1 a.2.2
  let c := numB b.2.1 b.2.2
  let d := numB c.2.1 c.2.2
  readBody a.1 b.1 c.1 d.1 (c.1 * 3).toNat d.2.1 d.2.2
theorem pair3 {α β γ : Type} (x : α × β × γ) : x = (x.1, x.2.1, x.2.2) := rfl
theorem message_any (R : Nat) (s : ByteArray) (sh : Bool) (w : World) (hr : RdAt w R s sh) :
    Calls Try.prog 52 #[.pointer (some ⟨R, 0, none⟩)] w fun e w' => ∃ v, e = .returned (mgV (readMsg s sh).1 v) ∧ MovesRow w w' v (readMsg s sh).1.moves ∧ RdAt w' R (readMsg s sh).2.1 (readMsg s sh).2.2 ∧ w.grownBy w' (some R) := by
  obtain ⟨k, s1, sh1, h1⟩ : ∃ k s1 sh1, numB s sh = (k, s1, sh1) := ⟨_, _, _, rfl⟩
  obtain ⟨f, s2, sh2, h2⟩ : ∃ k s2 sh2, numB s1 sh1 = (k, s2, sh2) := ⟨_, _, _, rfl⟩
  obtain ⟨h, s3, sh3, h3⟩ : ∃ k s3 sh3, numB s2 sh2 = (k, s3, sh3) := ⟨_, _, _, rfl⟩
  obtain ⟨r, s4, sh4, h4⟩ : ∃ k s4 sh4, numB s3 sh3 = (k, s4, sh4) := ⟨_, _, _, rfl⟩
  have hh := numB_bound s2 sh2
  rw [h3] at hh
  dsimp only at hh
  have e : readMsg s sh = readBody k f h r (h * 3).toNat s4 sh4 := by
    unfold readMsg
    rw [h1]; dsimp only
    rw [h2]; dsimp only
    rw [h3]; dsimp only
    rw [h4]
  rw [e]
  have hz : h * 3 = (((h * 3).toNat : Nat) : Int) := by omega
  have hn : (h * 3).toNat ≤ 1000 := by omega
  unfold readBody
  by_cases k1 : k = 1
  · rw [if_pos k1]
    dsimp only
    have hc := numB_bound (textB (h * 3).toNat s4 sh4).2.1 (textB (h * 3).toNat s4 sh4).2.2
    have hk : numB (textB (h * 3).toNat s4 sh4).2.1 (textB (h * 3).toNat s4 sh4).2.2 = (((numB (textB (h * 3).toNat s4 sh4).2.1 (textB (h * 3).toNat s4 sh4).2.2).1.toNat : Int), (numB (textB (h * 3).toNat s4 sh4).2.1 (textB (h * 3).toNat s4 sh4).2.2).2.1, (numB (textB (h * 3).toNat s4 sh4).2.1 (textB (h * 3).toNat s4 sh4).2.2).2.2) := by
      rw [Int.toNat_of_nonneg hc.1]
    exact msg1 R _ k f h r s s1 s2 s3 s4 sh sh1 sh2 sh3 sh4 _ _ _ _ _ _ _ _ _ w hr h1 h2 h3 h4 hz hn hh (pair3 _) hk (pair3 _) k1
  · rw [if_neg k1]
    have none_of : ∀ {m : Mg} {t : ByteArray} {b : Bool}, m.moves = [] → Calls Try.prog 52 #[.pointer (some ⟨R, 0, none⟩)] w (fun e w' => e = .returned (mgV m (.slice none 0 0)) ∧ RdAt w' R t b ∧ w.grownBy w' (some R)) →
        Calls Try.prog 52 #[.pointer (some ⟨R, 0, none⟩)] w (fun e w' => ∃ v, e = .returned (mgV m v) ∧ MovesRow w w' v m.moves ∧ RdAt w' R t b ∧ w.grownBy w' (some R)) := by
      intro m t b hm hc
      refine hc.mono ?_
      rintro e w' ⟨rfl, h2, h3⟩
      exact ⟨_, rfl, .inl ⟨hm, rfl⟩, h2, h3⟩
    by_cases k2 : k = 2 ∨ k = 3
    · rw [if_pos k2]
      dsimp only
      rcases k2 with k2 | k2
      · exact none_of rfl (msg2 R _ k f h r s s1 s2 s3 s4 sh sh1 sh2 sh3 sh4 _ _ _ w hr h1 h2 h3 h4 hz hn hh (pair3 _) k2)
      · exact none_of rfl (msg3 R _ k f h r s s1 s2 s3 s4 sh sh1 sh2 sh3 sh4 _ _ _ w hr h1 h2 h3 h4 hz hn hh (pair3 _) k2)
    · rw [if_neg k2]
      by_cases k4 : k = 4
      · rw [if_pos k4]
        dsimp only
        exact none_of rfl (msg4 R _ k f h r s s1 s2 s3 s4 sh sh1 sh2 sh3 sh4 _ _ _ _ _ _ w hr h1 h2 h3 h4 hz hn hh (pair3 _) k4)
      · rw [if_neg k4]
        by_cases k5 : k = 5
        · rw [if_pos k5]
          dsimp only
          exact none_of rfl (msg5 R _ k f h r s s1 s2 s3 s4 sh sh1 sh2 sh3 sh4 _ _ _ _ _ _ w hr h1 h2 h3 h4 hz hn hh (pair3 _) (pair3 _) k5)
        · rw [if_neg k5]
          dsimp only
          exact none_of rfl (msg0 R _ k f h r s s1 s2 s3 s4 sh sh1 sh2 sh3 sh4 w hr h1 h2 h3 h4 hz hn hh (by omega))
end Go.Proofs.Ytlkhmldceekdaaa

/- wire.Decode. -/
namespace Go.Proofs.Ytlkhmldceekdaaa
open Go.RowKit Go.Shelf
set_option linter.unusedVariables false

theorem textB_size (n : Nat) (s : ByteArray) (sh : Bool) : (textB n s sh).1.size ≤ n := by
  unfold textB
  split
  · exact Nat.zero_le _
  · show (s.extract 0 n).size ≤ n
    rw [ByteArray.size_extract]; omega
theorem moveB_size (node : Int) (n : Nat) (s : ByteArray) (sh : Bool) : (moveB node n s sh).1.chain.size ≤ n := by
  unfold moveB
  split
  · exact Nat.zero_le _
  · exact textB_size n _ _
theorem readMoves_sizes (n : Nat) : ∀ (k : Nat) (s : ByteArray) (sh : Bool), (readMoves n k s sh).1.length = k ∧ ∀ x ∈ (readMoves n k s sh).1, x.chain.size ≤ n
  | 0, s, sh => ⟨rfl, fun x hx => by simp [readMoves] at hx⟩
  | k + 1, s, sh => by
    rw [readMoves]
    dsimp only
    obtain ⟨i1, i2⟩ := readMoves_sizes n k (moveB (numB s sh).1 n (numB s sh).2.1 (numB s sh).2.2).2.1 (moveB (numB s sh).1 n (numB s sh).2.1 (numB s sh).2.2).2.2
    refine ⟨by rw [List.length_cons, i1], fun x hx => ?_⟩
    rcases List.mem_cons.1 hx with rfl | hx
    · exact moveB_size _ _ _ _
    · exact i2 x hx
theorem readMsg_sizes (s : ByteArray) (sh : Bool) : (readMsg s sh).1.chain.size ≤ 1000 ∧ (readMsg s sh).1.moves.length ≤ 255 ∧ ∀ x ∈ (readMsg s sh).1.moves, x.chain.size ≤ 1000 := by
  unfold readMsg
  dsimp only
  have hc := numB_bound (numB (numB s sh).2.1 (numB s sh).2.2).2.1 (numB (numB s sh).2.1 (numB s sh).2.2).2.2
  generalize numB (numB (numB s sh).2.1 (numB s sh).2.2).2.1 (numB (numB s sh).2.1 (numB s sh).2.2).2.2 = c at *
  generalize numB c.2.1 c.2.2 = d
  have hn : (c.1 * 3).toNat ≤ 1000 := by omega
  generalize (c.1 * 3).toNat = n at *
  unfold readBody
  dsimp only
  have none_of : ∀ x ∈ ([] : List Mv), x.chain.size ≤ 1000 := fun x hx => by cases hx
  have ht := textB_size n d.2.1 d.2.2
  split
  · have hu := numB_bound (textB n d.2.1 d.2.2).2.1 (textB n d.2.1 d.2.2).2.2
    obtain ⟨i1, i2⟩ := readMoves_sizes n (numB (textB n d.2.1 d.2.2).2.1 (textB n d.2.1 d.2.2).2.2).1.toNat (numB (textB n d.2.1 d.2.2).2.1 (textB n d.2.1 d.2.2).2.2).2.1 (numB (textB n d.2.1 d.2.2).2.1 (textB n d.2.1 d.2.2).2.2).2.2
    exact ⟨Nat.le_trans ht hn, by rw [i1]; omega, fun x hx => Nat.le_trans (i2 x hx) hn⟩
  · split
    · exact ⟨Nat.le_trans ht hn, Nat.zero_le _, none_of⟩
    · split
      · exact ⟨Nat.le_trans (moveB_size _ _ _ _) hn, Nat.zero_le _, none_of⟩
      · split
        · exact ⟨Nat.le_trans ht hn, Nat.zero_le _, none_of⟩
        · exact ⟨Nat.zero_le _, Nat.zero_le _, none_of⟩
/-- the row of Moves, as wire.MayBe asks for it -/
theorem MovesRow.at {w w' : World} {v : Value} {l : List Mv} (h : MovesRow w w' v l) (h1 : ∀ x ∈ l, x.chain.size ≤ 1000) (h2 : l.length ≤ 255) : MovesAt w' v l := by
  refine ⟨?_, fun x hx => Nat.le_trans (h1 x hx) (by unfold maxLen; decide), by omega⟩
  rcases h with ⟨rfl, rfl⟩ | ⟨g, rfl, _, hx⟩
  · exact ⟨none, 0, rfl, fun h => absurd h (by simp)⟩
  · refine ⟨_, _, rfl, fun h0 => ⟨g, 0, rfl, lt_of_block hx, fun i hi => ?_⟩⟩
    have e : l = l.take i ++ l[i] :: l.drop (i + 1) := by rw [← List.drop_eq_getElem_cons hi, List.take_append_drop]
    have q := flatV_get (l.take i) (l.drop (i + 1)) l[i] i (by rw [List.length_take]; omega)
    rw [← e] at q
    rw [Nat.zero_add]
    exact ⟨box_read hx (by simpa using q.1), box_read hx (by simpa using q.2.1), box_read hx (by simpa using q.2.2.1), box_read hx (by simpa using q.2.2.2)⟩
theorem MovesRow.below {w W w' : World} {v : Value} {l : List Mv} (h : MovesRow w W v l) (hb : Below W.heap.size W w') : MovesRow w w' v l := by
  rcases h with h | ⟨g, e, h1, h2⟩
  · exact .inl h
  · exact .inr ⟨g, e, h1, (hb.block g (lt_of_block h2)).trans h2⟩

theorem below_of_grown {a b : World} {R : Nat} (h : a.grownBy b (some R)) (hR : a.heap.size ≤ R) : Below a.heap.size a b := ⟨h.os, h.tape, h.output, h.size, fun k hk => h.block k hk (by simp; omega)⟩
/-- is it read whole, and may it be? -/
def okMsg (s : ByteArray) : Bool := !(readMsg s false).2.2 && (decide ((readMsg s false).2.1.size = 0) && mayB (readMsg s false).1)
abbrev noMsg : Value := mgV ⟨0, 0, 0, 0, ⟨#[]⟩, 0, 0, []⟩ (.slice none 0 0)

set_option maxRecDepth 100000 in
set_option maxHeartbeats 4000000 in
theorem wDec_short (s : ByteArray) (w : World) (hs : s.size ≤ maxLen) (hsh : (readMsg s false).2.2 = true) :
    Calls Try.prog 33 #[.string s] w fun e w' => e = .returned (.tuple #[noMsg, .int .i64 2]) ∧ Below w.heap.size w w' := by
  obtain ⟨z1, z2, z3⟩ := readMsg_sizes s false
  have hmsg := fun (R : Nat) (W : World) hr => message_any R s false W hr
  obtain ⟨⟨k, f, h, r, c, p, b, l⟩, t, sh, hrd⟩ : ∃ m t sh, readMsg s false = (m, t, sh) := ⟨_, _, _, rfl⟩
  rw [hrd] at z1 z2 z3 hmsg
  dsimp only at z1 z2 z3 hmsg
  have HMSG := hide hmsg
  have HS := hide hs
  have e1 : sh = true := by rw [hrd] at hsh; exact hsh
  subst e1
  clear hsh
  clear hmsg hs hrd
  have hA := World.alloc_heap_new w (.cells #[.int .i64 0, .int .i64 0, .int .i64 0, .int .i64 0, .string ⟨#[]⟩, .int .i64 0, .int .i64 0, .slice none 0 0] 39 (0, 0))
  have hR : RdAt ((w.alloc (.cells #[.int .i64 0, .int .i64 0, .int .i64 0, .int .i64 0, .string ⟨#[]⟩, .int .i64 0, .int .i64 0, .slice none 0 0] 39)).alloc (.cells #[.string s, .bool false] 102)) (w.heap.size + 1) s false := by
    refine ⟨?_, HS.out⟩
    have := World.alloc_heap_new (w.alloc (.cells #[.int .i64 0, .int .i64 0, .int .i64 0, .int .i64 0, .string ⟨#[]⟩, .int .i64 0, .int .i64 0, .slice none 0 0] 39)) (.cells #[.string s, .bool false] 102 (0, 0))
    rw [World.size_alloc] at this
    exact this
  have HA := hide hA
  have HR := hide hR
  clear hA hR
  go_enter Try.func33, Try.ntmps33
  go_wp2_with (first
    | (go_at_call 52; refine (HMSG.out (w.heap.size + 1) _ HR.out).mono ?_; rintro e w1 ⟨v, rfl, hrow, hr1, hg1⟩; obtain ⟨ao, ln, rfl⟩ := hrow.slice; have HROW := hide hrow; clear hrow; have n1 := hg1.size; rw [World.size_alloc, World.size_alloc] at n1; have a1 := heap_grown hg1 (box_alloc HA.out) (by omega); have G1 := grown_alloc (grown_alloc hg1); have a2 := box_alloc (o' := .cells #[.int .i64 k, .int .i64 f, .int .i64 h, .int .i64 r, .string c, .int .i64 p, .int .i64 b, .slice ao ln ln] 39) a1; have hr2 := hr1.alloc (o := .cells #[.int .i64 k, .int .i64 f, .int .i64 h, .int .i64 r, .string c, .int .i64 p, .int .i64 b, .slice ao ln ln] 39); obtain ⟨y0, y1⟩ := hr2.cells; have x2 := World.alloc_heap_new w1 (.cells #[.int .i64 k, .int .i64 f, .int .i64 h, .int .i64 r, .string c, .int .i64 p, .int .i64 b, .slice ao ln ln] 39 (0, 0)); have t0 := box_read (i := 0) a2 rfl; have e0 := free_of (j := 0) a2; have t1 := box_read (i := 1) a2 rfl; have e1 := free_of (j := 1) a2; have t2 := box_read (i := 2) a2 rfl; have e2 := free_of (j := 2) a2; have t3 := box_read (i := 3) a2 rfl; have e3 := free_of (j := 3) a2; have t4 := box_read (i := 4) a2 rfl; have e4 := free_of (j := 4) a2; have t5 := box_read (i := 5) a2 rfl; have e5 := free_of (j := 5) a2; have t6 := box_read (i := 6) a2 rfl; have e6 := free_of (j := 6) a2; have t7 := box_read (i := 7) a2 rfl; have e7 := free_of (j := 7) a2))
  refine bodyPost_ret (v := .tuple #[noMsg, .int .i64 2]) (by simp [results, Try.results33, go_sem, t0, t1, t2, t3, t4, t5, t6, t7]) rfl ⟨rfl, ?_⟩
  have B1 := below_of_grown G1 (Nat.le_succ _)
  exact (((((((((B1.alloc (by have := B1.size; omega) _).setCell (p := ⟨w.heap.size, 0, none⟩) (Nat.le_refl _) _).setCell (p := ⟨w.heap.size, 1, none⟩) (Nat.le_refl _) _).setCell (p := ⟨w.heap.size, 2, none⟩) (Nat.le_refl _) _).setCell (p := ⟨w.heap.size, 3, none⟩) (Nat.le_refl _) _).setCell (p := ⟨w.heap.size, 4, none⟩) (Nat.le_refl _) _).setCell (p := ⟨w.heap.size, 5, none⟩) (Nat.le_refl _) _).setCell (p := ⟨w.heap.size, 6, none⟩) (Nat.le_refl _) _).setCell (p := ⟨w.heap.size, 7, none⟩) (Nat.le_refl _) _)

set_option maxRecDepth 100000 in
set_option maxHeartbeats 4000000 in
theorem wDec_long (s : ByteArray) (w : World) (hs : s.size ≤ maxLen) (hsh : (readMsg s false).2.2 = false) (hne : ¬ (readMsg s false).2.1.size = 0) :
    Calls Try.prog 33 #[.string s] w fun e w' => e = .returned (.tuple #[noMsg, .int .i64 2]) ∧ Below w.heap.size w w' := by
  obtain ⟨z1, z2, z3⟩ := readMsg_sizes s false
  have hmsg := fun (R : Nat) (W : World) hr => message_any R s false W hr
  obtain ⟨⟨k, f, h, r, c, p, b, l⟩, t, sh, hrd⟩ : ∃ m t sh, readMsg s false = (m, t, sh) := ⟨_, _, _, rfl⟩
  rw [hrd] at z1 z2 z3 hmsg
  dsimp only at z1 z2 z3 hmsg
  have HMSG := hide hmsg
  have HS := hide hs
  have e1 : sh = false := by rw [hrd] at hsh; exact hsh
  subst e1
  clear hsh
  have htb : (t.toList == []) = false := by
    rw [hrd] at hne
    have h0 : ¬ t.toList = [] := fun e => hne (bytes_nil.1 e)
    simpa using h0
  clear hne
  clear hmsg hs hrd
  have hA := World.alloc_heap_new w (.cells #[.int .i64 0, .int .i64 0, .int .i64 0, .int .i64 0, .string ⟨#[]⟩, .int .i64 0, .int .i64 0, .slice none 0 0] 39 (0, 0))
  have hR : RdAt ((w.alloc (.cells #[.int .i64 0, .int .i64 0, .int .i64 0, .int .i64 0, .string ⟨#[]⟩, .int .i64 0, .int .i64 0, .slice none 0 0] 39)).alloc (.cells #[.string s, .bool false] 102)) (w.heap.size + 1) s false := by
    refine ⟨?_, HS.out⟩
    have := World.alloc_heap_new (w.alloc (.cells #[.int .i64 0, .int .i64 0, .int .i64 0, .int .i64 0, .string ⟨#[]⟩, .int .i64 0, .int .i64 0, .slice none 0 0] 39)) (.cells #[.string s, .bool false] 102 (0, 0))
    rw [World.size_alloc] at this
    exact this
  have HA := hide hA
  have HR := hide hR
  clear hA hR
  go_enter Try.func33, Try.ntmps33
  go_wp2_with (first
    | (go_at_call 52; refine (HMSG.out (w.heap.size + 1) _ HR.out).mono ?_; rintro e w1 ⟨v, rfl, hrow, hr1, hg1⟩; obtain ⟨ao, ln, rfl⟩ := hrow.slice; have HROW := hide hrow; clear hrow; have n1 := hg1.size; rw [World.size_alloc, World.size_alloc] at n1; have a1 := heap_grown hg1 (box_alloc HA.out) (by omega); have G1 := grown_alloc (grown_alloc hg1); have a2 := box_alloc (o' := .cells #[.int .i64 k, .int .i64 f, .int .i64 h, .int .i64 r, .string c, .int .i64 p, .int .i64 b, .slice ao ln ln] 39) a1; have hr2 := hr1.alloc (o := .cells #[.int .i64 k, .int .i64 f, .int .i64 h, .int .i64 r, .string c, .int .i64 p, .int .i64 b, .slice ao ln ln] 39); obtain ⟨y0, y1⟩ := hr2.cells; have x2 := World.alloc_heap_new w1 (.cells #[.int .i64 k, .int .i64 f, .int .i64 h, .int .i64 r, .string c, .int .i64 p, .int .i64 b, .slice ao ln ln] 39 (0, 0)); have t0 := box_read (i := 0) a2 rfl; have e0 := free_of (j := 0) a2; have t1 := box_read (i := 1) a2 rfl; have e1 := free_of (j := 1) a2; have t2 := box_read (i := 2) a2 rfl; have e2 := free_of (j := 2) a2; have t3 := box_read (i := 3) a2 rfl; have e3 := free_of (j := 3) a2; have t4 := box_read (i := 4) a2 rfl; have e4 := free_of (j := 4) a2; have t5 := box_read (i := 5) a2 rfl; have e5 := free_of (j := 5) a2; have t6 := box_read (i := 6) a2 rfl; have e6 := free_of (j := 6) a2; have t7 := box_read (i := 7) a2 rfl; have e7 := free_of (j := 7) a2))
  refine bodyPost_ret (v := .tuple #[noMsg, .int .i64 2]) (by simp [results, Try.results33, go_sem, t0, t1, t2, t3, t4, t5, t6, t7]) rfl ⟨rfl, ?_⟩
  have B1 := below_of_grown G1 (Nat.le_succ _)
  exact (((((((((B1.alloc (by have := B1.size; omega) _).setCell (p := ⟨w.heap.size, 0, none⟩) (Nat.le_refl _) _).setCell (p := ⟨w.heap.size, 1, none⟩) (Nat.le_refl _) _).setCell (p := ⟨w.heap.size, 2, none⟩) (Nat.le_refl _) _).setCell (p := ⟨w.heap.size, 3, none⟩) (Nat.le_refl _) _).setCell (p := ⟨w.heap.size, 4, none⟩) (Nat.le_refl _) _).setCell (p := ⟨w.heap.size, 5, none⟩) (Nat.le_refl _) _).setCell (p := ⟨w.heap.size, 6, none⟩) (Nat.le_refl _) _).setCell (p := ⟨w.heap.size, 7, none⟩) (Nat.le_refl _) _)

set_option maxRecDepth 100000 in
set_option maxHeartbeats 4000000 in
theorem wDec_not (s : ByteArray) (w : World) (hs : s.size ≤ maxLen) (hsh : (readMsg s false).2.2 = false) (hne : (readMsg s false).2.1.size = 0) (hm : mayB (readMsg s false).1 = false) :
    Calls Try.prog 33 #[.string s] w fun e w' => e = .returned (.tuple #[noMsg, .int .i64 2]) ∧ Below w.heap.size w w' := by
  obtain ⟨z1, z2, z3⟩ := readMsg_sizes s false
  have hmsg := fun (R : Nat) (W : World) hr => message_any R s false W hr
  obtain ⟨⟨k, f, h, r, c, p, b, l⟩, t, sh, hrd⟩ : ∃ m t sh, readMsg s false = (m, t, sh) := ⟨_, _, _, rfl⟩
  rw [hrd] at z1 z2 z3 hmsg
  dsimp only at z1 z2 z3 hmsg
  have HMSG := hide hmsg
  have HS := hide hs
  have e1 : sh = false := by rw [hrd] at hsh; exact hsh
  subst e1
  clear hsh
  have htb : (t.toList == []) = true := by
    rw [hrd] at hne
    have h0 : t.toList = [] := bytes_nil.2 hne
    rw [h0]; rfl
  have HM : Hid (mayB ⟨k, f, h, r, c, p, b, l⟩ = false) := by rw [hrd] at hm; exact hm
  clear hne hm
  clear hmsg hs hrd
  have hA := World.alloc_heap_new w (.cells #[.int .i64 0, .int .i64 0, .int .i64 0, .int .i64 0, .string ⟨#[]⟩, .int .i64 0, .int .i64 0, .slice none 0 0] 39 (0, 0))
  have hR : RdAt ((w.alloc (.cells #[.int .i64 0, .int .i64 0, .int .i64 0, .int .i64 0, .string ⟨#[]⟩, .int .i64 0, .int .i64 0, .slice none 0 0] 39)).alloc (.cells #[.string s, .bool false] 102)) (w.heap.size + 1) s false := by
    refine ⟨?_, HS.out⟩
    have := World.alloc_heap_new (w.alloc (.cells #[.int .i64 0, .int .i64 0, .int .i64 0, .int .i64 0, .string ⟨#[]⟩, .int .i64 0, .int .i64 0, .slice none 0 0] 39)) (.cells #[.string s, .bool false] 102 (0, 0))
    rw [World.size_alloc] at this
    exact this
  have HA := hide hA
  have HR := hide hR
  clear hA hR
  go_enter Try.func33, Try.ntmps33
  go_wp2_with (first
    | (go_at_call 52; refine (HMSG.out (w.heap.size + 1) _ HR.out).mono ?_; rintro e w1 ⟨v, rfl, hrow, hr1, hg1⟩; obtain ⟨ao, ln, rfl⟩ := hrow.slice; have HROW := hide hrow; clear hrow; have n1 := hg1.size; rw [World.size_alloc, World.size_alloc] at n1; have a1 := heap_grown hg1 (box_alloc HA.out) (by omega); have G1 := grown_alloc (grown_alloc hg1); have a2 := box_alloc (o' := .cells #[.int .i64 k, .int .i64 f, .int .i64 h, .int .i64 r, .string c, .int .i64 p, .int .i64 b, .slice ao ln ln] 39) a1; have hr2 := hr1.alloc (o := .cells #[.int .i64 k, .int .i64 f, .int .i64 h, .int .i64 r, .string c, .int .i64 p, .int .i64 b, .slice ao ln ln] 39); obtain ⟨y0, y1⟩ := hr2.cells; have x2 := World.alloc_heap_new w1 (.cells #[.int .i64 k, .int .i64 f, .int .i64 h, .int .i64 r, .string c, .int .i64 p, .int .i64 b, .slice ao ln ln] 39 (0, 0)); have t0 := box_read (i := 0) a2 rfl; have e0 := free_of (j := 0) a2; have t1 := box_read (i := 1) a2 rfl; have e1 := free_of (j := 1) a2; have t2 := box_read (i := 2) a2 rfl; have e2 := free_of (j := 2) a2; have t3 := box_read (i := 3) a2 rfl; have e3 := free_of (j := 3) a2; have t4 := box_read (i := 4) a2 rfl; have e4 := free_of (j := 4) a2; have t5 := box_read (i := 5) a2 rfl; have e5 := free_of (j := 5) a2; have t6 := box_read (i := 6) a2 rfl; have e6 := free_of (j := 6) a2; have t7 := box_read (i := 7) a2 rfl; have e7 := free_of (j := 7) a2)
    | (go_at_call 47; refine (mayBe_is false ⟨k, f, h, r, c, p, b, l⟩ _ _ ((HROW.out.below ((Below.refl _ w1).alloc (Nat.le_refl _) _)).at z3 z2) (Nat.le_trans z1 (by unfold maxLen; decide)) HM.out).mono ?_; rintro e w3 ⟨rfl, hb3⟩; have a3 := (hb3.block _ (lt_of_block a2)).trans a2; have x3 := (hb3.block _ (lt_of_block x2)).trans x2; have t0 := box_read (i := 0) a3 rfl; have e0 := free_of (j := 0) a3; have t1 := box_read (i := 1) a3 rfl; have e1 := free_of (j := 1) a3; have t2 := box_read (i := 2) a3 rfl; have e2 := free_of (j := 2) a3; have t3 := box_read (i := 3) a3 rfl; have e3 := free_of (j := 3) a3; have t4 := box_read (i := 4) a3 rfl; have e4 := free_of (j := 4) a3; have t5 := box_read (i := 5) a3 rfl; have e5 := free_of (j := 5) a3; have t6 := box_read (i := 6) a3 rfl; have e6 := free_of (j := 6) a3; have t7 := box_read (i := 7) a3 rfl; have e7 := free_of (j := 7) a3; have c0 := box_read (i := 0) x3 rfl; have c1 := box_read (i := 1) x3 rfl; have c2 := box_read (i := 2) x3 rfl; have c3 := box_read (i := 3) x3 rfl; have c4 := box_read (i := 4) x3 rfl; have c5 := box_read (i := 5) x3 rfl; have c6 := box_read (i := 6) x3 rfl; have c7 := box_read (i := 7) x3 rfl))
  refine bodyPost_ret (v := .tuple #[noMsg, .int .i64 2]) (by simp [results, Try.results33, go_sem, t0, t1, t2, t3, t4, t5, t6, t7]) rfl ⟨rfl, ?_⟩
  have B1 := below_of_grown G1 (Nat.le_succ _)
  exact ((((((((((B1.alloc (by have := B1.size; omega) _).trans (hb3.mono (Nat.le_trans B1.size (by simp)))).setCell (p := ⟨w.heap.size, 0, none⟩) (Nat.le_refl _) _).setCell (p := ⟨w.heap.size, 1, none⟩) (Nat.le_refl _) _).setCell (p := ⟨w.heap.size, 2, none⟩) (Nat.le_refl _) _).setCell (p := ⟨w.heap.size, 3, none⟩) (Nat.le_refl _) _).setCell (p := ⟨w.heap.size, 4, none⟩) (Nat.le_refl _) _).setCell (p := ⟨w.heap.size, 5, none⟩) (Nat.le_refl _) _).setCell (p := ⟨w.heap.size, 6, none⟩) (Nat.le_refl _) _).setCell (p := ⟨w.heap.size, 7, none⟩) (Nat.le_refl _) _)

set_option maxRecDepth 100000 in
set_option maxHeartbeats 4000000 in
theorem wDec_ok (s : ByteArray) (w : World) (hs : s.size ≤ maxLen) (hsh : (readMsg s false).2.2 = false) (hne : (readMsg s false).2.1.size = 0) (hm : mayB (readMsg s false).1 = true) :
    Calls Try.prog 33 #[.string s] w fun e w' => ∃ v, e = .returned (.tuple #[mgV (readMsg s false).1 v, .int .i64 0]) ∧ MovesRow w w' v (readMsg s false).1.moves ∧ Below w.heap.size w w' := by
  obtain ⟨z1, z2, z3⟩ := readMsg_sizes s false
  have hmsg := fun (R : Nat) (W : World) hr => message_any R s false W hr
  obtain ⟨⟨k, f, h, r, c, p, b, l⟩, t, sh, hrd⟩ : ∃ m t sh, readMsg s false = (m, t, sh) := ⟨_, _, _, rfl⟩
  rw [hrd] at z1 z2 z3 hmsg ⊢
  dsimp only at z1 z2 z3 hmsg
  have HMSG := hide hmsg
  have HS := hide hs
  have e1 : sh = false := by rw [hrd] at hsh; exact hsh
  subst e1
  clear hsh
  have htb : (t.toList == []) = true := by
    rw [hrd] at hne
    have h0 : t.toList = [] := bytes_nil.2 hne
    rw [h0]; rfl
  have HM : Hid (mayB ⟨k, f, h, r, c, p, b, l⟩ = true) := by rw [hrd] at hm; exact hm
  clear hne hm
  clear hmsg hs hrd
  have hA := World.alloc_heap_new w (.cells #[.int .i64 0, .int .i64 0, .int .i64 0, .int .i64 0, .string ⟨#[]⟩, .int .i64 0, .int .i64 0, .slice none 0 0] 39 (0, 0))
  have hR : RdAt ((w.alloc (.cells #[.int .i64 0, .int .i64 0, .int .i64 0, .int .i64 0, .string ⟨#[]⟩, .int .i64 0, .int .i64 0, .slice none 0 0] 39)).alloc (.cells #[.string s, .bool false] 102)) (w.heap.size + 1) s false := by
    refine ⟨?_, HS.out⟩
    have := World.alloc_heap_new (w.alloc (.cells #[.int .i64 0, .int .i64 0, .int .i64 0, .int .i64 0, .string ⟨#[]⟩, .int .i64 0, .int .i64 0, .slice none 0 0] 39)) (.cells #[.string s, .bool false] 102 (0, 0))
    rw [World.size_alloc] at this
    exact this
  have HA := hide hA
  have HR := hide hR
  clear hA hR
  go_enter Try.func33, Try.ntmps33
  go_wp2_with (first
    | (go_at_call 52; refine (HMSG.out (w.heap.size + 1) _ HR.out).mono ?_; rintro e w1 ⟨v, rfl, hrow, hr1, hg1⟩; obtain ⟨ao, ln, rfl⟩ := hrow.slice; have HROW := hide hrow; clear hrow; have n1 := hg1.size; rw [World.size_alloc, World.size_alloc] at n1; have a1 := heap_grown hg1 (box_alloc HA.out) (by omega); have G1 := grown_alloc (grown_alloc hg1); have a2 := box_alloc (o' := .cells #[.int .i64 k, .int .i64 f, .int .i64 h, .int .i64 r, .string c, .int .i64 p, .int .i64 b, .slice ao ln ln] 39) a1; have hr2 := hr1.alloc (o := .cells #[.int .i64 k, .int .i64 f, .int .i64 h, .int .i64 r, .string c, .int .i64 p, .int .i64 b, .slice ao ln ln] 39); obtain ⟨y0, y1⟩ := hr2.cells; have x2 := World.alloc_heap_new w1 (.cells #[.int .i64 k, .int .i64 f, .int .i64 h, .int .i64 r, .string c, .int .i64 p, .int .i64 b, .slice ao ln ln] 39 (0, 0)); have t0 := box_read (i := 0) a2 rfl; have e0 := free_of (j := 0) a2; have t1 := box_read (i := 1) a2 rfl; have e1 := free_of (j := 1) a2; have t2 := box_read (i := 2) a2 rfl; have e2 := free_of (j := 2) a2; have t3 := box_read (i := 3) a2 rfl; have e3 := free_of (j := 3) a2; have t4 := box_read (i := 4) a2 rfl; have e4 := free_of (j := 4) a2; have t5 := box_read (i := 5) a2 rfl; have e5 := free_of (j := 5) a2; have t6 := box_read (i := 6) a2 rfl; have e6 := free_of (j := 6) a2; have t7 := box_read (i := 7) a2 rfl; have e7 := free_of (j := 7) a2)
    | (go_at_call 47; refine (mayBe_is true ⟨k, f, h, r, c, p, b, l⟩ _ _ ((HROW.out.below ((Below.refl _ w1).alloc (Nat.le_refl _) _)).at z3 z2) (Nat.le_trans z1 (by unfold maxLen; decide)) HM.out).mono ?_; rintro e w3 ⟨rfl, hb3⟩; have a3 := (hb3.block _ (lt_of_block a2)).trans a2; have x3 := (hb3.block _ (lt_of_block x2)).trans x2; have t0 := box_read (i := 0) a3 rfl; have e0 := free_of (j := 0) a3; have t1 := box_read (i := 1) a3 rfl; have e1 := free_of (j := 1) a3; have t2 := box_read (i := 2) a3 rfl; have e2 := free_of (j := 2) a3; have t3 := box_read (i := 3) a3 rfl; have e3 := free_of (j := 3) a3; have t4 := box_read (i := 4) a3 rfl; have e4 := free_of (j := 4) a3; have t5 := box_read (i := 5) a3 rfl; have e5 := free_of (j := 5) a3; have t6 := box_read (i := 6) a3 rfl; have e6 := free_of (j := 6) a3; have t7 := box_read (i := 7) a3 rfl; have e7 := free_of (j := 7) a3; have c0 := box_read (i := 0) x3 rfl; have c1 := box_read (i := 1) x3 rfl; have c2 := box_read (i := 2) x3 rfl; have c3 := box_read (i := 3) x3 rfl; have c4 := box_read (i := 4) x3 rfl; have c5 := box_read (i := 5) x3 rfl; have c6 := box_read (i := 6) x3 rfl; have c7 := box_read (i := 7) x3 rfl))
  refine bodyPost_ret (v := .tuple #[mgV ⟨k, f, h, r, c, p, b, l⟩ (.slice ao ln ln), .int .i64 0]) (by simp [results, Try.results33, go_sem, t0, t1, t2, t3, t4, t5, t6, t7]) rfl ?_
  have B1 := below_of_grown G1 (Nat.le_succ _)
  refine ⟨_, rfl, ((HROW.out.below ((Below.refl _ w1).alloc (Nat.le_refl _) _)).below hb3).mono (by simp; omega) ?_, ((((((((((B1.alloc (by have := B1.size; omega) _).trans (hb3.mono (Nat.le_trans B1.size (by simp)))).setCell (p := ⟨w.heap.size, 0, none⟩) (Nat.le_refl _) _).setCell (p := ⟨w.heap.size, 1, none⟩) (Nat.le_refl _) _).setCell (p := ⟨w.heap.size, 2, none⟩) (Nat.le_refl _) _).setCell (p := ⟨w.heap.size, 3, none⟩) (Nat.le_refl _) _).setCell (p := ⟨w.heap.size, 4, none⟩) (Nat.le_refl _) _).setCell (p := ⟨w.heap.size, 5, none⟩) (Nat.le_refl _) _).setCell (p := ⟨w.heap.size, 6, none⟩) (Nat.le_refl _) _).setCell (p := ⟨w.heap.size, 7, none⟩) (Nat.le_refl _) _)⟩
  intro g o hg ho
  simp only [World.size_alloc] at hg
  exact heap_other (heap_other (heap_other (heap_other (heap_other (heap_other (heap_other (heap_other ho (by omega)) (by omega)) (by omega)) (by omega)) (by omega)) (by omega)) (by omega)) (by omega)
end Go.Proofs.Ytlkhmldceekdaaa

/- The document's reading by places: at, cut, moveAt. -/
namespace Go.Proofs.Ytlkhmldceekdaaa
open Go.RowKit Go.Shelf
set_option linter.unusedVariables false

def atB (s : ByteArray) (i : Nat) : Int := if h : i < s.size then (s[i].toNat : Int) else 0
theorem atB_bound (s : ByteArray) (i : Nat) : 0 ≤ atB s i ∧ atB s i ≤ 255 := by
  unfold atB
  split
  · rename_i h
    have := s[i].toNat_lt
    omega
  · omega
set_option maxRecDepth 100000 in
set_option maxHeartbeats 1000000 in
theorem at_nat (s : ByteArray) (i : Nat) (w : World) (hs : s.size ≤ maxLen) (hi : i ≤ 100000000) :
    Calls Try.prog 34 #[.string s, .int .i64 (i : Int)] w fun e w' => e = .returned (.int .i64 (atB s i)) ∧ w' = w := by
  unfold maxLen at hs
  by_cases h : i < s.size
  · have HA : Hid (atB s i = (s[i].toNat : Int)) := dif_pos h
    have hb := s[i].toNat_lt
    have i0 : (0 : Int) ≤ (i : Int) := by omega
    have i1 : (i : Int) < (s.size : Int) := by omega
    go_enter Try.func34, Try.ntmps34
    go_wp2
    go_ret
    refine ⟨ret_int ?_, rfl⟩
    rw [HA.out]
  · have HA : Hid (atB s i = 0) := dif_neg h
    go_enter Try.func34, Try.ntmps34
    go_wp2
    go_ret
    exact ⟨ret_int HA.out.symm, rfl⟩
theorem at_is (s : ByteArray) (z : Int) (w : World) (hs : s.size ≤ maxLen) (h0 : 0 ≤ z) (h1 : z ≤ 100000000) :
    Calls Try.prog 34 #[.string s, .int .i64 z] w fun e w' => e = .returned (.int .i64 (atB s z.toNat)) ∧ w' = w := by
  obtain ⟨i, rfl⟩ := Int.eq_ofNat_of_zero_le h0
  exact at_nat s i w hs (by omega)

theorem extract_past {s : ByteArray} {i n : Nat} (h : s.size < i) : s.extract i (i + n) = ⟨#[]⟩ := by
  apply ByteArray.ext
  rw [ByteArray.data_extract]
  apply Array.eq_empty_of_size_eq_zero
  rw [Array.size_extract]
  have : s.data.size = s.size := rfl
  omega
theorem extract_end {s : ByteArray} {i n : Nat} (h : s.size < i + n) : s.extract i (i + n) = s.extract i s.size := by
  apply ByteArray.ext
  rw [ByteArray.data_extract, ByteArray.data_extract]
  have e : s.data.size = s.size := rfl
  apply Array.ext
  · rw [Array.size_extract, Array.size_extract]; omega
  · intro j h1 h2
    rw [Array.getElem_extract, Array.getElem_extract]
theorem extract_nil {s : ByteArray} {i j : Nat} (h : min j s.size ≤ i) : s.extract i j = ⟨#[]⟩ := by
  apply ByteArray.ext
  rw [ByteArray.data_extract]
  apply Array.eq_empty_of_size_eq_zero
  rw [Array.size_extract]
  have : s.data.size = s.size := rfl
  omega
theorem ret_str {a b : ByteArray} (h : a = b) : Ending.returned (.string a) = .returned (.string b) := by rw [h]
set_option maxRecDepth 100000 in
set_option maxHeartbeats 1000000 in
theorem cut_nat (s : ByteArray) (i n : Nat) (w : World) (hs : s.size ≤ maxLen) (hi : i ≤ 100000000) (hn : n ≤ 1000) :
    Calls Try.prog 35 #[.string s, .int .i64 (i : Int), .int .i64 (n : Int)] w fun e w' => e = .returned (.string (s.extract i (i + n))) ∧ w' = w := by
  unfold maxLen at hs
  by_cases h : s.size < i
  · have HA := hide (extract_past (n := n) h)
    have i1 : (s.size : Int) < (i : Int) := by omega
    have hsum : IntKind.i64.wrap ((s.size : Int) + (n : Int)) = (s.size : Int) + (n : Int) := by rw [IntKind.wrap_i64]; omega
    go_enter Try.func35, Try.ntmps35
    go_wp2
    · go_ret
      exact ⟨ret_str HA.out.symm, rfl⟩
    · go_ret
      refine ⟨ret_str ?_, rfl⟩
      rw [HA.out]
      exact extract_nil (by omega)
  · by_cases h2 : s.size < i + n
    · have HA := hide (extract_end h2)
      have i0 : (0 : Int) ≤ (i : Int) := by omega
      have i1 : (i : Int) ≤ (s.size : Int) := by omega
      go_enter Try.func35, Try.ntmps35
      go_wp2
      go_ret
      refine ⟨ret_str ?_, rfl⟩
      rw [HA.out]
      exact congrArg (s.extract i) (by omega)
    · have i0 : (0 : Int) ≤ (i : Int) := by omega
      have i1 : (i : Int) ≤ (i : Int) + (n : Int) := by omega
      have i2 : (i : Int) + (n : Int) ≤ (s.size : Int) := by omega
      go_enter Try.func35, Try.ntmps35
      go_wp2
      go_ret
      exact ⟨rfl, rfl⟩
theorem cut_is (s : ByteArray) (z y : Int) (w : World) (hs : s.size ≤ maxLen) (h0 : 0 ≤ z) (h1 : z ≤ 100000000) (h2 : 0 ≤ y) (h3 : y ≤ 1000) :
    Calls Try.prog 35 #[.string s, .int .i64 z, .int .i64 y] w fun e w' => e = .returned (.string (s.extract z.toNat (z.toNat + y.toNat))) ∧ w' = w := by
  obtain ⟨i, rfl⟩ := Int.eq_ofNat_of_zero_le h0
  obtain ⟨n, rfl⟩ := Int.eq_ofNat_of_zero_le h2
  exact cut_nat s i n w hs (by omega) (by omega)

/-- a Move at a place: round, chain, set, and how many bytes -/
def moveAtB (s : ByteArray) (i : Nat) (n : Nat) : Int × ByteArray × Int × Int :=
  if atB s i = 0 then (-1, ⟨#[]⟩, 0, 1) else (atB s i - 1, s.extract (i + 1) (i + 1 + n), atB s (i + 1 + n), 2 + (n : Int))
set_option maxRecDepth 100000 in
set_option maxHeartbeats 1000000 in
theorem moveAt_nat (s : ByteArray) (i : Nat) (h : Int) (w : World) (hs : s.size ≤ maxLen) (hi : i ≤ 10000000) (hh : 0 ≤ h ∧ h ≤ 255) :
    Calls Try.prog 36 #[.string s, .int .i64 (i : Int), .int .i64 h] w fun e w' => e = .returned (.tuple #[.int .i64 (moveAtB s i (3 * h).toNat).1, .string (moveAtB s i (3 * h).toNat).2.1, .int .i64 (moveAtB s i (3 * h).toNat).2.2.1, .int .i64 (moveAtB s i (3 * h).toNat).2.2.2]) ∧ w' = w := by
  have hb := atB_bound s i
  have hn : 3 * h = (((3 * h).toNat : Nat) : Int) := by omega
  obtain ⟨n, hnn⟩ : ∃ n, (3 * h).toNat = n := ⟨_, rfl⟩
  rw [hnn] at hn ⊢
  have hn1 : n ≤ 1000 := by omega
  have HN := hide hnn
  clear hnn
  obtain ⟨q, hq⟩ : ∃ q, atB s i = q := ⟨_, rfl⟩
  rw [hq] at hb
  by_cases h0 : q = 0
  · have HM : Hid (moveAtB s i n = (-1, ⟨#[]⟩, 0, 1)) := by show _ = _; unfold moveAtB; rw [hq]; exact if_pos h0
    have hB : (q - 1 == -1) = true := by simp; omega
    have hC : (q == 0) = true := by simp [h0]
    have HQ := hide hq
    clear hq h0
    go_enter Try.func36, Try.ntmps36
    go_wp2_with (go_at_call 34; refine (at_nat s i _ hs (by omega)).mono ?_; rintro e w' ⟨rfl, rfl⟩; rw [HQ.out])
    refine bodyPost_ret (v := .tuple #[.int .i64 (-1), .string ⟨#[]⟩, .int .i64 0, .int .i64 1]) (by simp [results, Try.results36, go_sem]) rfl ?_
    rw [HM.out]
    exact ⟨rfl, rfl⟩
  · have HM : Hid (moveAtB s i n = (q - 1, s.extract (i + 1) (i + 1 + n), atB s (i + 1 + n), 2 + (n : Int))) := by show _ = _; unfold moveAtB; rw [hq]; exact if_neg h0
    have hB : (q - 1 == -1) = false := beq_eq_false_iff_ne.2 (by omega)
    have hC : (q == 0) = false := beq_eq_false_iff_ne.2 h0
    have HQ := hide hq
    obtain ⟨q2, hq2⟩ : ∃ q, atB s (i + 1 + n) = q := ⟨_, rfl⟩
    have hq3 : atB s ((i : Int) + 1 + (n : Int)).toNat = q2 := by rw [← hq2]; exact congrArg (atB s) (by omega)
    rw [hq2] at HM
    have HQ2 := hide hq3
    obtain ⟨c, hc⟩ : ∃ c, s.extract (i + 1) (i + 1 + n) = c := ⟨_, rfl⟩
    have hc2 : s.extract ((i : Int) + 1).toNat (((i : Int) + 1).toNat + (n : Int).toNat) = c := by
      rw [← hc, Int.toNat_natCast, show ((i : Int) + 1).toNat = i + 1 by omega]
    rw [hc] at HM
    have HC := hide hc2
    clear hq h0 hq2 hq3 hc hc2
    go_enter Try.func36, Try.ntmps36
    go_wp2_with (first
      | (go_at_call 34; refine (at_is s _ _ hs (by omega) (by omega)).mono ?_; rintro e w' ⟨rfl, rfl⟩; first | rw [Int.toNat_natCast, HQ.out] | rw [HQ2.out])
      | (go_at_call 35; refine (cut_is s _ _ _ hs (by omega) (by omega) (by omega) (by omega)).mono ?_; rintro e w' ⟨rfl, rfl⟩; rw [HC.out]))
    refine bodyPost_ret (v := .tuple #[.int .i64 (q - 1), .string c, .int .i64 q2, .int .i64 (2 + (n : Int))]) (by simp [results, Try.results36, go_sem]) rfl ?_
    rw [HM.out]
    exact ⟨rfl, rfl⟩
end Go.Proofs.Ytlkhmldceekdaaa
