import Derived.Test.YtpecfjejfkcolaaPart20
import Derived.Deep.RegionWith
/- wire's reader: message, Propose. -/
namespace Go.Proofs.Ytpecfjejfkcolaa
open Go.RowKit Go.Shelf
set_option linter.unusedVariables false
theorem MovesRow.slice {w w' : World} {v : Value} {l : List Mv} (h : MovesRow w w' v l) : ∃ ao ln, v = .slice ao ln ln := by
  rcases h with ⟨_, rfl⟩ | ⟨g, rfl, _⟩
  · exact ⟨_, _, rfl⟩
  · exact ⟨_, _, rfl⟩
theorem MovesRow.mono {w W w6 w' : World} {v : Value} {l : List Mv} (h : MovesRow W w6 v l) (hs : w.heap.size ≤ W.heap.size) (hk : ∀ g o, W.heap.size ≤ g → w6.heap[g]? = some o → w'.heap[g]? = some o) : MovesRow w w' v l := by
  rcases h with h | ⟨g, e, h1, h2⟩
  · exact .inl h
  · exact .inr ⟨g, e, Nat.le_trans hs h1, hk g _ h1 h2⟩

set_option maxRecDepth 100000 in
set_option maxHeartbeats 4000000 in
theorem msg1 (R n : Nat) (k f h r : Int) (s s1 s2 s3 s4 : ByteArray) (sh sh1 sh2 sh3 sh4 : Bool) (s5 : ByteArray) (sh5 : Bool) (c : ByteArray) (s6 : ByteArray) (sh6 : Bool) (s7 : ByteArray) (sh7 : Bool) (cnt : Nat) (l : List Mv) (w : World) (hr : RdAt w R s sh) (h1 : numB s sh = (k, s1, sh1)) (h2 : numB s1 sh1 = (f, s2, sh2)) (h3 : numB s2 sh2 = (h, s3, sh3)) (h4 : numB s3 sh3 = (r, s4, sh4)) (hz : h * 3 = (n : Int)) (hn : n ≤ 1000) (hh : 0 ≤ h ∧ h ≤ 255) (h5 : textB n s4 sh4 = (c, s5, sh5)) (h6 : numB s5 sh5 = ((cnt : Int), s6, sh6)) (h7 : readMoves n cnt s6 sh6 = (l, s7, sh7)) (hk : k = 1) :
    Calls Try.prog 52 #[.pointer (some ⟨R, 0, none⟩)] w fun e w' => ∃ v, e = .returned (mgV ⟨k, f, h, r, c, -1, 0, l⟩ v) ∧ MovesRow w w' v l ∧ RdAt w' R s7 sh7 ∧ w.grownBy w' (some R) := by
  have H1 := hide h1
  have H2 := hide h2
  have H3 := hide h3
  have H4 := hide h4
  have H5 := hide h5
  clear h5
  have H6 := hide h6
  have H7 := hide h7
  clear h6 h7
  have HR := hide hr
  have hlt := hr.lt
  have hA := World.alloc_heap_new w (.cells #[.int .i64 0, .int .i64 0, .int .i64 0, .int .i64 0, .string ⟨#[]⟩, .int .i64 0, .int .i64 0, .slice none 0 0] 39 (0, 0))
  have hB : ((w.alloc (.cells #[.int .i64 0, .int .i64 0, .int .i64 0, .int .i64 0, .string ⟨#[]⟩, .int .i64 0, .int .i64 0, .slice none 0 0] 39)).alloc (.cells #[.int .i64 0, .int .i64 0, .int .i64 0, .int .i64 0, .string ⟨#[]⟩, .int .i64 (-1), .int .i64 0, .slice none 0 0] 39)).heap[w.heap.size + 1]? = some (.cells #[.int .i64 0, .int .i64 0, .int .i64 0, .int .i64 0, .string ⟨#[]⟩, .int .i64 (-1), .int .i64 0, .slice none 0 0] 39 (0, 0)) := by
    have := World.alloc_heap_new (w.alloc (.cells #[.int .i64 0, .int .i64 0, .int .i64 0, .int .i64 0, .string ⟨#[]⟩, .int .i64 0, .int .i64 0, .slice none 0 0] 39)) (.cells #[.int .i64 0, .int .i64 0, .int .i64 0, .int .i64 0, .string ⟨#[]⟩, .int .i64 (-1), .int .i64 0, .slice none 0 0] 39 (0, 0))
    rw [World.size_alloc] at this
    exact this
  have HA := hide hA
  have HB := hide hB
  clear h1 h2 h3 h4 hr hA hB
  have k1 : (k == 1) = true := beq_iff_eq.2 hk
  clear hk
  go_enter Try.func52, Try.ntmps52
  go_wp2_with (first
    | (go_at_call 66; refine (moves_any R n cnt l s5 s6 s7 sh5 sh6 sh7 _ (hr5.set (by omega)) hn H6.out H7.out).mono ?_; rintro e w6 ⟨v, rfl, hrow, hr6, hg6⟩; obtain ⟨ao, ln, rfl⟩ := hrow.slice; have HROW := hide hrow; clear hrow; have n6 := hg6.size; have m6 := heap_grown hg6 m5' (by omega); have a6 := heap_grown hg6 a5' (by omega); have p6 := box_read (i := 7) m6 rfl; have q6 := free_of (j := 7) m6; have m6' : (w6.setCell ⟨w.heap.size + 1, 7, none⟩ (.slice ao ln ln)).heap[w.heap.size + 1]? = some (.cells #[.int .i64 k, .int .i64 f, .int .i64 h, .int .i64 r, .string c, .int .i64 (-1), .int .i64 0, .slice ao ln ln] 39 (0, 0)) := heap_set (j := 7) (u := .slice ao ln ln) m6 (by simp); have a6' := heap_other (k := w.heap.size + 1) (j := 7) (u := .slice ao ln ln) a6 (by omega); have u0 := box_read (i := 0) m6' rfl; have t0 := box_read (i := 0) a6' rfl; have e0 := free_of (j := 0) a6'; have u1 := box_read (i := 1) m6' rfl; have t1 := box_read (i := 1) a6' rfl; have e1 := free_of (j := 1) a6'; have u2 := box_read (i := 2) m6' rfl; have t2 := box_read (i := 2) a6' rfl; have e2 := free_of (j := 2) a6'; have u3 := box_read (i := 3) m6' rfl; have t3 := box_read (i := 3) a6' rfl; have e3 := free_of (j := 3) a6'; have u4 := box_read (i := 4) m6' rfl; have t4 := box_read (i := 4) a6' rfl; have e4 := free_of (j := 4) a6'; have u5 := box_read (i := 5) m6' rfl; have t5 := box_read (i := 5) a6' rfl; have e5 := free_of (j := 5) a6'; have u6 := box_read (i := 6) m6' rfl; have t6 := box_read (i := 6) a6' rfl; have e6 := free_of (j := 6) a6'; have u7 := box_read (i := 7) m6' rfl; have t7 := box_read (i := 7) a6' rfl; have e7 := free_of (j := 7) a6')
    | (go_at_call 65; refine (text_is c s5 sh5 R n s4 sh4 _ (hr4.set (by omega)) hn H5.out).mono ?_; rintro e w5 ⟨rfl, hr5, hg5⟩; have n5 := hg5.size; have m5 := heap_grown hg5 m4' (by omega); have a5 := heap_grown hg5 a4' (by omega); have p5 := box_read (i := 4) m5 rfl; have q5 := free_of (j := 4) m5; have m5' : (w5.setCell ⟨w.heap.size + 1, 4, none⟩ (.string c)).heap[w.heap.size + 1]? = some (.cells #[.int .i64 k, .int .i64 f, .int .i64 h, .int .i64 r, .string c, .int .i64 (-1), .int .i64 0, .slice none 0 0] 39 (0, 0)) := heap_set (j := 4) (u := .string c) m5 (by simp); have a5' := heap_other (k := w.heap.size + 1) (j := 4) (u := .string c) a5 (by omega))
    | (go_at_call 64; refine (number_is r s4 sh4 R s3 sh3 _ (hr3.set (by omega)) H4.out).mono ?_; rintro e w4 ⟨rfl, hr4, hg4⟩; have n4 := hg4.size; have m4 := heap_grown hg4 m3' (by omega); have a4 := heap_grown hg4 a3' (by omega); have p4 := box_read (i := 3) m4 rfl; have q4 := free_of (j := 3) m4; have m4' : (w4.setCell ⟨w.heap.size + 1, 3, none⟩ (.int .i64 r)).heap[w.heap.size + 1]? = some (.cells #[.int .i64 k, .int .i64 f, .int .i64 h, .int .i64 r, .string ⟨#[]⟩, .int .i64 (-1), .int .i64 0, .slice none 0 0] 39 (0, 0)) := heap_set (j := 3) (u := .int .i64 r) m4 (by simp); have a4' := heap_other (k := w.heap.size + 1) (j := 3) (u := .int .i64 r) a4 (by omega); have y0 := box_read (i := 0) m4' rfl; have y1 := box_read (i := 1) m4' rfl; have y2 := box_read (i := 2) m4' rfl)
    | (go_at_call 64; refine (number_is h s3 sh3 R s2 sh2 _ (hr2.set (by omega)) H3.out).mono ?_; rintro e w3 ⟨rfl, hr3, hg3⟩; have n3 := hg3.size; have m3 := heap_grown hg3 m2' (by omega); have a3 := heap_grown hg3 a2' (by omega); have p3 := box_read (i := 2) m3 rfl; have q3 := free_of (j := 2) m3; have m3' : (w3.setCell ⟨w.heap.size + 1, 2, none⟩ (.int .i64 h)).heap[w.heap.size + 1]? = some (.cells #[.int .i64 k, .int .i64 f, .int .i64 h, .int .i64 0, .string ⟨#[]⟩, .int .i64 (-1), .int .i64 0, .slice none 0 0] 39 (0, 0)) := heap_set (j := 2) (u := .int .i64 h) m3 (by simp); have a3' := heap_other (k := w.heap.size + 1) (j := 2) (u := .int .i64 h) a3 (by omega))
    | (go_at_call 64; refine (number_is f s2 sh2 R s1 sh1 _ (hr1.set (by omega)) H2.out).mono ?_; rintro e w2 ⟨rfl, hr2, hg2⟩; have n2 := hg2.size; have m2 := heap_grown hg2 m1' (by omega); have a2 := heap_grown hg2 a1' (by omega); have p2 := box_read (i := 1) m2 rfl; have q2 := free_of (j := 1) m2; have m2' : (w2.setCell ⟨w.heap.size + 1, 1, none⟩ (.int .i64 f)).heap[w.heap.size + 1]? = some (.cells #[.int .i64 k, .int .i64 f, .int .i64 0, .int .i64 0, .string ⟨#[]⟩, .int .i64 (-1), .int .i64 0, .slice none 0 0] 39 (0, 0)) := heap_set (j := 1) (u := .int .i64 f) m2 (by simp); have a2' := heap_other (k := w.heap.size + 1) (j := 1) (u := .int .i64 f) a2 (by omega))
    | (go_at_call 64; refine (number_is k s1 sh1 R s sh _ (HR.out.alloc.alloc) H1.out).mono ?_; rintro e w1 ⟨rfl, hr1, hg1⟩; have n1 := hg1.size; rw [World.size_alloc, World.size_alloc] at n1; have m1 := heap_grown hg1 HB.out (by omega); have a1 := heap_grown hg1 (box_alloc HA.out) (by omega); have p1 := box_read (i := 0) m1 rfl; have q1 := free_of (j := 0) m1; have m1' : (w1.setCell ⟨w.heap.size + 1, 0, none⟩ (.int .i64 k)).heap[w.heap.size + 1]? = some (.cells #[.int .i64 k, .int .i64 0, .int .i64 0, .int .i64 0, .string ⟨#[]⟩, .int .i64 (-1), .int .i64 0, .slice none 0 0] 39 (0, 0)) := heap_set (j := 0) (u := .int .i64 k) m1 (by simp); have a1' := heap_other (k := w.heap.size + 1) (j := 0) (u := .int .i64 k) a1 (by omega)))
  refine bodyPost_ret (v := mgV ⟨k, f, h, r, c, -1, 0, l⟩ (.slice ao ln ln)) (by simp [results, Try.results52, go_sem, t0, t1, t2, t3, t4, t5, t6, t7]) rfl ?_
  have G1 := grown_alloc (grown_alloc hg1)
  have G2 := grown_trans (grown_set (k := w.heap.size + 1) (j := 0) (u := .int .i64 k) G1 (by omega)) hg2
  have G3 := grown_trans (grown_set (k := w.heap.size + 1) (j := 1) (u := .int .i64 f) G2 (by omega)) hg3
  have G4 := grown_trans (grown_set (k := w.heap.size + 1) (j := 2) (u := .int .i64 h) G3 (by omega)) hg4
  have G5 := grown_trans (grown_set (k := w.heap.size + 1) (j := 3) (u := .int .i64 r) G4 (by omega)) hg5
  have G6 := grown_trans (grown_set (k := w.heap.size + 1) (j := 4) (u := .string c) G5 (by omega)) hg6
  have RD := ((((((((hr6.set (k := w.heap.size + 1) (j := 7) (u := .slice ao ln ln) (by omega)).set (k := w.heap.size) (j := 0) (u := .int .i64 k) (by omega)).set (k := w.heap.size) (j := 1) (u := .int .i64 f) (by omega)).set (k := w.heap.size) (j := 2) (u := .int .i64 h) (by omega)).set (k := w.heap.size) (j := 3) (u := .int .i64 r) (by omega)).set (k := w.heap.size) (j := 4) (u := .string c) (by omega)).set (k := w.heap.size) (j := 5) (u := .int .i64 (-1)) (by omega)).set (k := w.heap.size) (j := 6) (u := .int .i64 0) (by omega)).set (k := w.heap.size) (j := 7) (u := .slice ao ln ln) (by omega)
  have GG := grown_set (k := w.heap.size) (j := 7) (u := .slice ao ln ln) (grown_set (k := w.heap.size) (j := 6) (u := .int .i64 0) (grown_set (k := w.heap.size) (j := 5) (u := .int .i64 (-1)) (grown_set (k := w.heap.size) (j := 4) (u := .string c) (grown_set (k := w.heap.size) (j := 3) (u := .int .i64 r) (grown_set (k := w.heap.size) (j := 2) (u := .int .i64 h) (grown_set (k := w.heap.size) (j := 1) (u := .int .i64 f) (grown_set (k := w.heap.size) (j := 0) (u := .int .i64 k) (grown_set (k := w.heap.size + 1) (j := 7) (u := .slice ao ln ln) G6 (by omega)) (Nat.le_refl _)) (Nat.le_refl _)) (Nat.le_refl _)) (Nat.le_refl _)) (Nat.le_refl _)) (Nat.le_refl _)) (Nat.le_refl _)) (Nat.le_refl _)
  refine ⟨_, rfl, HROW.out.mono ?_ ?_, RD, GG⟩
  · exact Nat.le_trans (by have := G5.size; exact this) (grownBy_setCellAt _ _ _ _).size
  · intro g o hg ho
    have hz5 := G5.size
    have hz6 : w5.heap.size ≤ g := Nat.le_trans (grownBy_setCellAt _ _ _ _).size hg
    have hm5 := lt_of_block m5
    exact heap_other (heap_other (heap_other (heap_other (heap_other (heap_other (heap_other (heap_other (heap_other ho (by omega)) (by omega)) (by omega)) (by omega)) (by omega)) (by omega)) (by omega)) (by omega)) (by omega)
end Go.Proofs.Ytpecfjejfkcolaa

/- wire's reader: message, Change. -/
namespace Go.Proofs.Ytpecfjejfkcolaa
open Go.RowKit Go.Shelf
set_option linter.unusedVariables false
theorem grown_drew {a b : World} {row : Option Nat} (h : a.grownBy b row) : a.grownBy b.drew row := ⟨h.os, h.tape, h.output, h.size, h.block⟩
theorem RdAt.drew {w : World} {R : Nat} {s : ByteArray} {sh : Bool} (h : RdAt w R s sh) : RdAt w.drew R s sh := h

set_option maxRecDepth 100000 in
set_option maxHeartbeats 4000000 in
theorem msg4 (R n : Nat) (k f h r : Int) (s s1 s2 s3 s4 : ByteArray) (sh sh1 sh2 sh3 sh4 : Bool) (s5 : ByteArray) (sh5 : Bool) (xn xp xb : Int) (xc : ByteArray) (w : World) (hr : RdAt w R s sh) (h1 : numB s sh = (k, s1, sh1)) (h2 : numB s1 sh1 = (f, s2, sh2)) (h3 : numB s2 sh2 = (h, s3, sh3)) (h4 : numB s3 sh3 = (r, s4, sh4)) (hz : h * 3 = (n : Int)) (hn : n ≤ 1000) (hh : 0 ≤ h ∧ h ≤ 255) (h5 : moveB f n s4 sh4 = (⟨xn, xp, xc, xb⟩, s5, sh5)) (hk : k = 4) :
    Calls Try.prog 52 #[.pointer (some ⟨R, 0, none⟩)] w fun e w' => e = .returned (mgV ⟨k, f, h, r, xc, xp, xb, []⟩ (.slice none 0 0)) ∧ RdAt w' R s5 sh5 ∧ w.grownBy w' (some R) := by
  have H1 := hide h1
  have H2 := hide h2
  have H3 := hide h3
  have H4 := hide h4
  have H5 := hide h5
  clear h5
  have HR := hide hr
  have hlt := hr.lt
  have hA := World.alloc_heap_new w (.cells #[.int .i64 0, .int .i64 0, .int .i64 0, .int .i64 0, .string ⟨#[]⟩, .int .i64 0, .int .i64 0, .slice none 0 0] 39 (0, 0))
  have hB : ((w.alloc (.cells #[.int .i64 0, .int .i64 0, .int .i64 0, .int .i64 0, .string ⟨#[]⟩, .int .i64 0, .int .i64 0, .slice none 0 0] 39)).alloc (.cells #[.int .i64 0, .int .i64 0, .int .i64 0, .int .i64 0, .string ⟨#[]⟩, .int .i64 (-1), .int .i64 0, .slice none 0 0] 39)).heap[w.heap.size + 1]? = some (.cells #[.int .i64 0, .int .i64 0, .int .i64 0, .int .i64 0, .string ⟨#[]⟩, .int .i64 (-1), .int .i64 0, .slice none 0 0] 39 (0, 0)) := by
    have := World.alloc_heap_new (w.alloc (.cells #[.int .i64 0, .int .i64 0, .int .i64 0, .int .i64 0, .string ⟨#[]⟩, .int .i64 0, .int .i64 0, .slice none 0 0] 39)) (.cells #[.int .i64 0, .int .i64 0, .int .i64 0, .int .i64 0, .string ⟨#[]⟩, .int .i64 (-1), .int .i64 0, .slice none 0 0] 39 (0, 0))
    rw [World.size_alloc] at this
    exact this
  have HA := hide hA
  have HB := hide hB
  clear h1 h2 h3 h4 hr hA hB
  have k1 : (k == 1) = false := beq_eq_false_iff_ne.2 (by omega)
  have k2 : (k == 2) = false := beq_eq_false_iff_ne.2 (by omega)
  have k3 : (k == 3) = false := beq_eq_false_iff_ne.2 (by omega)
  have k4 : (k == 4) = true := beq_iff_eq.2 hk
  clear hk
  go_enter Try.func52, Try.ntmps52
  go_wp2_with (first
    | (go_at_call 67; refine (moveR_is ⟨xn, xp, xc, xb⟩ s5 sh5 R n f s4 sh4 _ (hr4.set (by omega)) hn H5.out).mono ?_; rintro e w5 ⟨rfl, hr5, hg5⟩; have n5 := hg5.size; have m5 := heap_grown hg5 m4' (by omega); have a5 := heap_grown hg5 a4' (by omega))
    | (go_at_call 64; refine (number_is r s4 sh4 R s3 sh3 _ (hr3.set (by omega)) H4.out).mono ?_; rintro e w4 ⟨rfl, hr4, hg4⟩; have n4 := hg4.size; have m4 := heap_grown hg4 m3' (by omega); have a4 := heap_grown hg4 a3' (by omega); have p4 := box_read (i := 3) m4 rfl; have q4 := free_of (j := 3) m4; have m4' : (w4.setCell ⟨w.heap.size + 1, 3, none⟩ (.int .i64 r)).heap[w.heap.size + 1]? = some (.cells #[.int .i64 k, .int .i64 f, .int .i64 h, .int .i64 r, .string ⟨#[]⟩, .int .i64 (-1), .int .i64 0, .slice none 0 0] 39 (0, 0)) := heap_set (j := 3) (u := .int .i64 r) m4 (by simp); have a4' := heap_other (k := w.heap.size + 1) (j := 3) (u := .int .i64 r) a4 (by omega); have y0 := box_read (i := 0) m4' rfl; have y1 := box_read (i := 1) m4' rfl; have y2 := box_read (i := 2) m4' rfl)
    | (go_at_call 64; refine (number_is h s3 sh3 R s2 sh2 _ (hr2.set (by omega)) H3.out).mono ?_; rintro e w3 ⟨rfl, hr3, hg3⟩; have n3 := hg3.size; have m3 := heap_grown hg3 m2' (by omega); have a3 := heap_grown hg3 a2' (by omega); have p3 := box_read (i := 2) m3 rfl; have q3 := free_of (j := 2) m3; have m3' : (w3.setCell ⟨w.heap.size + 1, 2, none⟩ (.int .i64 h)).heap[w.heap.size + 1]? = some (.cells #[.int .i64 k, .int .i64 f, .int .i64 h, .int .i64 0, .string ⟨#[]⟩, .int .i64 (-1), .int .i64 0, .slice none 0 0] 39 (0, 0)) := heap_set (j := 2) (u := .int .i64 h) m3 (by simp); have a3' := heap_other (k := w.heap.size + 1) (j := 2) (u := .int .i64 h) a3 (by omega))
    | (go_at_call 64; refine (number_is f s2 sh2 R s1 sh1 _ (hr1.set (by omega)) H2.out).mono ?_; rintro e w2 ⟨rfl, hr2, hg2⟩; have n2 := hg2.size; have m2 := heap_grown hg2 m1' (by omega); have a2 := heap_grown hg2 a1' (by omega); have p2 := box_read (i := 1) m2 rfl; have q2 := free_of (j := 1) m2; have m2' : (w2.setCell ⟨w.heap.size + 1, 1, none⟩ (.int .i64 f)).heap[w.heap.size + 1]? = some (.cells #[.int .i64 k, .int .i64 f, .int .i64 0, .int .i64 0, .string ⟨#[]⟩, .int .i64 (-1), .int .i64 0, .slice none 0 0] 39 (0, 0)) := heap_set (j := 1) (u := .int .i64 f) m2 (by simp); have a2' := heap_other (k := w.heap.size + 1) (j := 1) (u := .int .i64 f) a2 (by omega))
    | (go_at_call 64; refine (number_is k s1 sh1 R s sh _ (HR.out.alloc.alloc) H1.out).mono ?_; rintro e w1 ⟨rfl, hr1, hg1⟩; have n1 := hg1.size; rw [World.size_alloc, World.size_alloc] at n1; have m1 := heap_grown hg1 HB.out (by omega); have a1 := heap_grown hg1 (box_alloc HA.out) (by omega); have p1 := box_read (i := 0) m1 rfl; have q1 := free_of (j := 0) m1; have m1' : (w1.setCell ⟨w.heap.size + 1, 0, none⟩ (.int .i64 k)).heap[w.heap.size + 1]? = some (.cells #[.int .i64 k, .int .i64 0, .int .i64 0, .int .i64 0, .string ⟨#[]⟩, .int .i64 (-1), .int .i64 0, .slice none 0 0] 39 (0, 0)) := heap_set (j := 0) (u := .int .i64 k) m1 (by simp); have a1' := heap_other (k := w.heap.size + 1) (j := 0) (u := .int .i64 k) a1 (by omega)))
  have m6 := box_alloc (o' := .cells #[.int .i64 xn, .int .i64 xp, .string xc, .int .i64 xb] 43) m5
  have a6 := box_alloc (o' := .cells #[.int .i64 xn, .int .i64 xp, .string xc, .int .i64 xb] 43) a5
  have x6 := World.alloc_heap_new w5 (.cells #[.int .i64 xn, .int .i64 xp, .string xc, .int .i64 xb] 43 (0, 0))
  have hr6 := hr5.alloc (o := .cells #[.int .i64 xn, .int .i64 xp, .string xc, .int .i64 xb] 43)
  have G6 := World.grownBy_alloc w5 (.cells #[.int .i64 xn, .int .i64 xp, .string xc, .int .i64 xb] 43) (some R)
  have l5 := lt_of_block m5
  obtain ⟨w6, hw6⟩ : ∃ w6, w6 = w5.alloc (.cells #[.int .i64 xn, .int .i64 xp, .string xc, .int .i64 xb] 43) := ⟨_, rfl⟩
  rw [← hw6] at m6 a6 x6 hr6 G6 ⊢
  clear hw6
  have x1 := box_read (i := 1) x6 rfl
  have x2 := box_read (i := 2) x6 rfl
  have x3 := box_read (i := 3) x6 rfl
  have u4 := box_read (i := 4) m6 rfl
  have u5 := box_read (i := 5) m6 rfl
  have u6 := box_read (i := 6) m6 rfl
  have v4 := free_of (j := 4) m6
  have v5 := free_of (j := 5) m6
  have v6 := free_of (j := 6) m6
  have ne1 : ¬ w5.heap.size = w.heap.size + 1 := by omega
  have ne2 : ¬ w.heap.size + 1 = w5.heap.size := by omega
  go_region
  have m7 : (w6.setCell ⟨w.heap.size + 1, 5, none⟩ (.int .i64 xp)).heap[w.heap.size + 1]? = some (.cells #[.int .i64 k, .int .i64 f, .int .i64 h, .int .i64 r, .string ⟨#[]⟩, .int .i64 xp, .int .i64 0, .slice none 0 0] 39 (0, 0)) := heap_set (j := 5) m6 (by simp)
  have m8 : ((w6.setCell ⟨w.heap.size + 1, 5, none⟩ (.int .i64 xp)).setCell ⟨w.heap.size + 1, 4, none⟩ (.string xc)).heap[w.heap.size + 1]? = some (.cells #[.int .i64 k, .int .i64 f, .int .i64 h, .int .i64 r, .string xc, .int .i64 xp, .int .i64 0, .slice none 0 0] 39 (0, 0)) := heap_set (j := 4) m7 (by simp)
  have m9 : (((w6.setCell ⟨w.heap.size + 1, 5, none⟩ (.int .i64 xp)).setCell ⟨w.heap.size + 1, 4, none⟩ (.string xc)).setCell ⟨w.heap.size + 1, 6, none⟩ (.int .i64 xb)).heap[w.heap.size + 1]? = some (.cells #[.int .i64 k, .int .i64 f, .int .i64 h, .int .i64 r, .string xc, .int .i64 xp, .int .i64 xb, .slice none 0 0] 39 (0, 0)) := heap_set (j := 6) m8 (by simp)
  have a9 := heap_other (k := w.heap.size + 1) (j := 6) (u := .int .i64 xb) (heap_other (k := w.heap.size + 1) (j := 4) (u := .string xc) (heap_other (k := w.heap.size + 1) (j := 5) (u := .int .i64 xp) a6 (by omega)) (by omega)) (by omega)
  have hr9 := (((hr6.set (k := w.heap.size + 1) (j := 5) (u := .int .i64 xp) (by omega)).set (k := w.heap.size + 1) (j := 4) (u := .string xc) (by omega)).set (k := w.heap.size + 1) (j := 6) (u := .int .i64 xb) (by omega)).drew
  have G1 := grown_alloc (grown_alloc hg1)
  have G2 := grown_trans (grown_set (k := w.heap.size + 1) (j := 0) (u := .int .i64 k) G1 (by omega)) hg2
  have G3 := grown_trans (grown_set (k := w.heap.size + 1) (j := 1) (u := .int .i64 f) G2 (by omega)) hg3
  have G4 := grown_trans (grown_set (k := w.heap.size + 1) (j := 2) (u := .int .i64 h) G3 (by omega)) hg4
  have G5 := grown_trans (grown_set (k := w.heap.size + 1) (j := 3) (u := .int .i64 r) G4 (by omega)) hg5
  have G9 := grown_drew (grown_set (k := w.heap.size + 1) (j := 6) (u := .int .i64 xb) (grown_set (k := w.heap.size + 1) (j := 4) (u := .string xc) (grown_set (k := w.heap.size + 1) (j := 5) (u := .int .i64 xp) (grown_trans G5 G6) (by omega)) (by omega)) (by omega))
  obtain ⟨w9, hw9⟩ : ∃ w9, w9 = (((w6.setCell ⟨w.heap.size + 1, 5, none⟩ (.int .i64 xp)).setCell ⟨w.heap.size + 1, 4, none⟩ (.string xc)).setCell ⟨w.heap.size + 1, 6, none⟩ (.int .i64 xb)).drew := ⟨_, rfl⟩
  have m10 : w9.heap[w.heap.size + 1]? = some (.cells #[.int .i64 k, .int .i64 f, .int .i64 h, .int .i64 r, .string xc, .int .i64 xp, .int .i64 xb, .slice none 0 0] 39 (0, 0)) := by rw [hw9]; exact m9
  have a10 : w9.heap[w.heap.size]? = some (.cells #[.int .i64 0, .int .i64 0, .int .i64 0, .int .i64 0, .string ⟨#[]⟩, .int .i64 0, .int .i64 0, .slice none 0 0] 39 (0, 0)) := by rw [hw9]; exact a9
  rw [← hw9] at hr9 G9 ⊢
  clear hw9
  have c0 := box_read (i := 0) m10 rfl
  have t0 := box_read (i := 0) a10 rfl
  have e0 := free_of (j := 0) a10
  have c1 := box_read (i := 1) m10 rfl
  have t1 := box_read (i := 1) a10 rfl
  have e1 := free_of (j := 1) a10
  have c2 := box_read (i := 2) m10 rfl
  have t2 := box_read (i := 2) a10 rfl
  have e2 := free_of (j := 2) a10
  have c3 := box_read (i := 3) m10 rfl
  have t3 := box_read (i := 3) a10 rfl
  have e3 := free_of (j := 3) a10
  have c4 := box_read (i := 4) m10 rfl
  have t4 := box_read (i := 4) a10 rfl
  have e4 := free_of (j := 4) a10
  have c5 := box_read (i := 5) m10 rfl
  have t5 := box_read (i := 5) a10 rfl
  have e5 := free_of (j := 5) a10
  have c6 := box_read (i := 6) m10 rfl
  have t6 := box_read (i := 6) a10 rfl
  have e6 := free_of (j := 6) a10
  have c7 := box_read (i := 7) m10 rfl
  have t7 := box_read (i := 7) a10 rfl
  have e7 := free_of (j := 7) a10
  go_wp2
  refine bodyPost_ret (v := mgV ⟨k, f, h, r, xc, xp, xb, []⟩ (.slice none 0 0)) (by simp [results, Try.results52, go_sem, t0, t1, t2, t3, t4, t5, t6, t7]) rfl ?_
  exact ⟨rfl, ((((((((hr9.set (k := w.heap.size) (j := 0) (u := .int .i64 k) (by omega)).set (k := w.heap.size) (j := 1) (u := .int .i64 f) (by omega)).set (k := w.heap.size) (j := 2) (u := .int .i64 h) (by omega)).set (k := w.heap.size) (j := 3) (u := .int .i64 r) (by omega)).set (k := w.heap.size) (j := 4) (u := .string xc) (by omega)).set (k := w.heap.size) (j := 5) (u := .int .i64 xp) (by omega)).set (k := w.heap.size) (j := 6) (u := .int .i64 xb) (by omega)).set (k := w.heap.size) (j := 7) (u := .slice none 0 0) (by omega)), (grown_set (k := w.heap.size) (j := 7) (u := .slice none 0 0) (grown_set (k := w.heap.size) (j := 6) (u := .int .i64 xb) (grown_set (k := w.heap.size) (j := 5) (u := .int .i64 xp) (grown_set (k := w.heap.size) (j := 4) (u := .string xc) (grown_set (k := w.heap.size) (j := 3) (u := .int .i64 r) (grown_set (k := w.heap.size) (j := 2) (u := .int .i64 h) (grown_set (k := w.heap.size) (j := 1) (u := .int .i64 f) (grown_set (k := w.heap.size) (j := 0) (u := .int .i64 k) G9 (Nat.le_refl _)) (Nat.le_refl _)) (Nat.le_refl _)) (Nat.le_refl _)) (Nat.le_refl _)) (Nat.le_refl _)) (Nat.le_refl _)) (Nat.le_refl _))⟩
end Go.Proofs.Ytpecfjejfkcolaa
