import Derived.Test.YtpecfjejfkcolaaPart19
/- wire's reader: message. -/
namespace Go.Proofs.Ytpecfjejfkcolaa
open Go.RowKit Go.Shelf
set_option linter.unusedVariables false

theorem text_isI (c : ByteArray) (s1 : ByteArray) (sh1 : Bool) (R n : Nat) (z : Int) (hz : z = (n : Int)) (s : ByteArray) (sh : Bool) (w : World) (hr : RdAt w R s sh) (hn : n ≤ 1000) (ht : textB n s sh = (c, s1, sh1)) :
    Calls Try.prog 65 #[.pointer (some ⟨R, 0, none⟩), .int .i64 z] w fun e w' => e = .returned (.string c) ∧ RdAt w' R s1 sh1 ∧ w.grownBy w' (some R) := by
  subst hz; exact text_is c s1 sh1 R n s sh w hr hn ht

set_option maxRecDepth 100000 in
set_option maxHeartbeats 4000000 in
theorem msg0 (R n : Nat) (k f h r : Int) (s s1 s2 s3 s4 : ByteArray) (sh sh1 sh2 sh3 sh4 : Bool)  (w : World) (hr : RdAt w R s sh) (h1 : numB s sh = (k, s1, sh1)) (h2 : numB s1 sh1 = (f, s2, sh2)) (h3 : numB s2 sh2 = (h, s3, sh3)) (h4 : numB s3 sh3 = (r, s4, sh4)) (hz : h * 3 = (n : Int)) (hn : n ≤ 1000) (hh : 0 ≤ h ∧ h ≤ 255) (hk : ¬ (1 ≤ k ∧ k ≤ 5)) :
    Calls Try.prog 52 #[.pointer (some ⟨R, 0, none⟩)] w fun e w' => e = .returned (mgV ⟨k, f, h, r, ⟨#[]⟩, -1, 0, []⟩ (.slice none 0 0)) ∧ RdAt w' R s4 sh4 ∧ w.grownBy w' (some R) := by
  have H1 := hide h1
  have H2 := hide h2
  have H3 := hide h3
  have H4 := hide h4
  have HR := hide hr
  have hlt := hr.lt
  have hA := World.alloc_heap_new w (.cells #[.int .i64 0, .int .i64 0, .int .i64 0, .int .i64 0, .string ⟨#[]⟩, .int .i64 0, .int .i64 0, .slice none 0 0] 39 (0, 0))
  have hB : ((w.alloc (.cells #[.int .i64 0, .int .i64 0, .int .i64 0, .int .i64 0, .string ⟨#[]⟩, .int .i64 0, .int .i64 0, .slice none 0 0] 39)).alloc (.cells #[.int .i64 0, .int .i64 0, .int .i64 0, .int .i64 0, .string ⟨#[]⟩, .int .i64 (-1), .int .i64 0, .slice none 0 0] 39)).heap[w.heap.size + 1]? = some (.cells #[.int .i64 0, .int .i64 0, .int .i64 0, .int .i64 0, .string ⟨#[]⟩, .int .i64 (-1), .int .i64 0, .slice none 0 0] 39 (0, 0)) := by
    have := World.alloc_heap_new (w.alloc (.cells #[.int .i64 0, .int .i64 0, .int .i64 0, .int .i64 0, .string ⟨#[]⟩, .int .i64 0, .int .i64 0, .slice none 0 0] 39)) (.cells #[.int .i64 0, .int .i64 0, .int .i64 0, .int .i64 0, .string ⟨#[]⟩, .int .i64 (-1), .int .i64 0, .slice none 0 0] 39 (0, 0))
    rw [World.size_alloc] at this
    exact this
  have HA := hide hA
  have HB := hide hB
  clear h1 h2 h3 h4 hr hA hB
  have k1 : (k == 1) = false := beq_eq_false_iff_ne.2 (by omega)
  have k2 : (k == 2) = false := beq_eq_false_iff_ne.2 (by omega)
  have k3 : (k == 3) = false := beq_eq_false_iff_ne.2 (by omega)
  have k4 : (k == 4) = false := beq_eq_false_iff_ne.2 (by omega)
  have k5 : (k == 5) = false := beq_eq_false_iff_ne.2 (by omega)
  clear hk
  go_enter Try.func52, Try.ntmps52
  go_wp2_with (first
    | (go_at_call 64; refine (number_is r s4 sh4 R s3 sh3 _ (hr3.set (by omega)) H4.out).mono ?_; rintro e w4 ⟨rfl, hr4, hg4⟩; have n4 := hg4.size; have m4 := heap_grown hg4 m3' (by omega); have a4 := heap_grown hg4 a3' (by omega); have p4 := box_read (i := 3) m4 rfl; have q4 := free_of (j := 3) m4; have m4' : (w4.setCell ⟨w.heap.size + 1, 3, none⟩ (.int .i64 r)).heap[w.heap.size + 1]? = some (.cells #[.int .i64 k, .int .i64 f, .int .i64 h, .int .i64 r, .string ⟨#[]⟩, .int .i64 (-1), .int .i64 0, .slice none 0 0] 39 (0, 0)) := heap_set (j := 3) (u := .int .i64 r) m4 (by simp); have a4' := heap_other (k := w.heap.size + 1) (j := 3) (u := .int .i64 r) a4 (by omega); have y0 := box_read (i := 0) m4' rfl; have y1 := box_read (i := 1) m4' rfl; have y2 := box_read (i := 2) m4' rfl; have u0 := box_read (i := 0) m4' rfl; have t0 := box_read (i := 0) a4' rfl; have e0 := free_of (j := 0) a4'; have u1 := box_read (i := 1) m4' rfl; have t1 := box_read (i := 1) a4' rfl; have e1 := free_of (j := 1) a4'; have u2 := box_read (i := 2) m4' rfl; have t2 := box_read (i := 2) a4' rfl; have e2 := free_of (j := 2) a4'; have u3 := box_read (i := 3) m4' rfl; have t3 := box_read (i := 3) a4' rfl; have e3 := free_of (j := 3) a4'; have u4 := box_read (i := 4) m4' rfl; have t4 := box_read (i := 4) a4' rfl; have e4 := free_of (j := 4) a4'; have u5 := box_read (i := 5) m4' rfl; have t5 := box_read (i := 5) a4' rfl; have e5 := free_of (j := 5) a4'; have u6 := box_read (i := 6) m4' rfl; have t6 := box_read (i := 6) a4' rfl; have e6 := free_of (j := 6) a4'; have u7 := box_read (i := 7) m4' rfl; have t7 := box_read (i := 7) a4' rfl; have e7 := free_of (j := 7) a4')
    | (go_at_call 64; refine (number_is h s3 sh3 R s2 sh2 _ (hr2.set (by omega)) H3.out).mono ?_; rintro e w3 ⟨rfl, hr3, hg3⟩; have n3 := hg3.size; have m3 := heap_grown hg3 m2' (by omega); have a3 := heap_grown hg3 a2' (by omega); have p3 := box_read (i := 2) m3 rfl; have q3 := free_of (j := 2) m3; have m3' : (w3.setCell ⟨w.heap.size + 1, 2, none⟩ (.int .i64 h)).heap[w.heap.size + 1]? = some (.cells #[.int .i64 k, .int .i64 f, .int .i64 h, .int .i64 0, .string ⟨#[]⟩, .int .i64 (-1), .int .i64 0, .slice none 0 0] 39 (0, 0)) := heap_set (j := 2) (u := .int .i64 h) m3 (by simp); have a3' := heap_other (k := w.heap.size + 1) (j := 2) (u := .int .i64 h) a3 (by omega))
    | (go_at_call 64; refine (number_is f s2 sh2 R s1 sh1 _ (hr1.set (by omega)) H2.out).mono ?_; rintro e w2 ⟨rfl, hr2, hg2⟩; have n2 := hg2.size; have m2 := heap_grown hg2 m1' (by omega); have a2 := heap_grown hg2 a1' (by omega); have p2 := box_read (i := 1) m2 rfl; have q2 := free_of (j := 1) m2; have m2' : (w2.setCell ⟨w.heap.size + 1, 1, none⟩ (.int .i64 f)).heap[w.heap.size + 1]? = some (.cells #[.int .i64 k, .int .i64 f, .int .i64 0, .int .i64 0, .string ⟨#[]⟩, .int .i64 (-1), .int .i64 0, .slice none 0 0] 39 (0, 0)) := heap_set (j := 1) (u := .int .i64 f) m2 (by simp); have a2' := heap_other (k := w.heap.size + 1) (j := 1) (u := .int .i64 f) a2 (by omega))
    | (go_at_call 64; refine (number_is k s1 sh1 R s sh _ (HR.out.alloc.alloc) H1.out).mono ?_; rintro e w1 ⟨rfl, hr1, hg1⟩; have n1 := hg1.size; rw [World.size_alloc, World.size_alloc] at n1; have m1 := heap_grown hg1 HB.out (by omega); have a1 := heap_grown hg1 (box_alloc HA.out) (by omega); have p1 := box_read (i := 0) m1 rfl; have q1 := free_of (j := 0) m1; have m1' : (w1.setCell ⟨w.heap.size + 1, 0, none⟩ (.int .i64 k)).heap[w.heap.size + 1]? = some (.cells #[.int .i64 k, .int .i64 0, .int .i64 0, .int .i64 0, .string ⟨#[]⟩, .int .i64 (-1), .int .i64 0, .slice none 0 0] 39 (0, 0)) := heap_set (j := 0) (u := .int .i64 k) m1 (by simp); have a1' := heap_other (k := w.heap.size + 1) (j := 0) (u := .int .i64 k) a1 (by omega)))
  refine bodyPost_ret (v := mgV ⟨k, f, h, r, ⟨#[]⟩, -1, 0, []⟩ (.slice none 0 0)) (by simp [results, Try.results52, go_sem, t0, t1, t2, t3, t4, t5, t6, t7]) rfl ?_
  have G1 := grown_alloc (grown_alloc hg1)
  have G2 := grown_trans (grown_set (k := w.heap.size + 1) (j := 0) (u := .int .i64 k) G1 (by omega)) hg2
  have G3 := grown_trans (grown_set (k := w.heap.size + 1) (j := 1) (u := .int .i64 f) G2 (by omega)) hg3
  have G4 := grown_trans (grown_set (k := w.heap.size + 1) (j := 2) (u := .int .i64 h) G3 (by omega)) hg4
  have RD := ((((((((hr4.set (k := w.heap.size + 1) (j := 3) (u := .int .i64 r) (by omega)).set (k := w.heap.size) (j := 0) (u := .int .i64 k) (by omega)).set (k := w.heap.size) (j := 1) (u := .int .i64 f) (by omega)).set (k := w.heap.size) (j := 2) (u := .int .i64 h) (by omega)).set (k := w.heap.size) (j := 3) (u := .int .i64 r) (by omega)).set (k := w.heap.size) (j := 4) (u := .string ⟨#[]⟩) (by omega)).set (k := w.heap.size) (j := 5) (u := .int .i64 (-1)) (by omega)).set (k := w.heap.size) (j := 6) (u := .int .i64 0) (by omega)).set (k := w.heap.size) (j := 7) (u := .slice none 0 0) (by omega)
  have GG := grown_set (k := w.heap.size) (j := 7) (u := .slice none 0 0) (grown_set (k := w.heap.size) (j := 6) (u := .int .i64 0) (grown_set (k := w.heap.size) (j := 5) (u := .int .i64 (-1)) (grown_set (k := w.heap.size) (j := 4) (u := .string ⟨#[]⟩) (grown_set (k := w.heap.size) (j := 3) (u := .int .i64 r) (grown_set (k := w.heap.size) (j := 2) (u := .int .i64 h) (grown_set (k := w.heap.size) (j := 1) (u := .int .i64 f) (grown_set (k := w.heap.size) (j := 0) (u := .int .i64 k) (grown_set (k := w.heap.size + 1) (j := 3) (u := .int .i64 r) G4 (by omega)) (Nat.le_refl _)) (Nat.le_refl _)) (Nat.le_refl _)) (Nat.le_refl _)) (Nat.le_refl _)) (Nat.le_refl _)) (Nat.le_refl _)) (Nat.le_refl _)
  exact ⟨rfl, RD, GG⟩

set_option maxRecDepth 100000 in
set_option maxHeartbeats 4000000 in
theorem msg2 (R n : Nat) (k f h r : Int) (s s1 s2 s3 s4 : ByteArray) (sh sh1 sh2 sh3 sh4 : Bool) (s5 : ByteArray) (sh5 : Bool) (c : ByteArray) (w : World) (hr : RdAt w R s sh) (h1 : numB s sh = (k, s1, sh1)) (h2 : numB s1 sh1 = (f, s2, sh2)) (h3 : numB s2 sh2 = (h, s3, sh3)) (h4 : numB s3 sh3 = (r, s4, sh4)) (hz : h * 3 = (n : Int)) (hn : n ≤ 1000) (hh : 0 ≤ h ∧ h ≤ 255) (h5 : textB n s4 sh4 = (c, s5, sh5)) (hk : k = 2) :
    Calls Try.prog 52 #[.pointer (some ⟨R, 0, none⟩)] w fun e w' => e = .returned (mgV ⟨k, f, h, r, c, -1, 0, []⟩ (.slice none 0 0)) ∧ RdAt w' R s5 sh5 ∧ w.grownBy w' (some R) := by
  have H1 := hide h1
  have H2 := hide h2
  have H3 := hide h3
  have H4 := hide h4
  have H5 := hide h5
  clear h5
  have HR := hide hr
  have hlt := hr.lt
  have hA := World.alloc_heap_new w (.cells #[.int .i64 0, .int .i64 0, .int .i64 0, .int .i64 0, .string ⟨#[]⟩, .int .i64 0, .int .i64 0, .slice none 0 0] 39 (0, 0))
  have hB : ((w.alloc (.cells #[.int .i64 0, .int .i64 0, .int .i64 0, .int .i64 0, .string ⟨#[]⟩, .int .i64 0, .int .i64 0, .slice none 0 0] 39)).alloc (.cells #[.int .i64 0, .int .i64 0, .int .i64 0, .int .i64 0, .string ⟨#[]⟩, .int .i64 (-1), .int .i64 0, .slice none 0 0] 39)).heap[w.heap.size + 1]? = some (.cells #[.int .i64 0, .int .i64 0, .int .i64 0, .int .i64 0, .string ⟨#[]⟩, .int .i64 (-1), .int .i64 0, .slice none 0 0] 39 (0, 0)) := by
    have := World.alloc_heap_new (w.alloc (.cells #[.int .i64 0, .int .i64 0, .int .i64 0, .int .i64 0, .string ⟨#[]⟩, .int .i64 0, .int .i64 0, .slice none 0 0] 39)) (.cells #[.int .i64 0, .int .i64 0, .int .i64 0, .int .i64 0, .string ⟨#[]⟩, .int .i64 (-1), .int .i64 0, .slice none 0 0] 39 (0, 0))
    rw [World.size_alloc] at this
    exact this
  have HA := hide hA
  have HB := hide hB
  clear h1 h2 h3 h4 hr hA hB
  have k1 : (k == 1) = false := beq_eq_false_iff_ne.2 (by omega)
  have k2 : (k == 2) = true := beq_iff_eq.2 hk
  clear hk
  go_enter Try.func52, Try.ntmps52
  go_wp2_with (first
    | (go_at_call 65; refine (text_is c s5 sh5 R n s4 sh4 _ (hr4.set (by omega)) hn H5.out).mono ?_; rintro e w5 ⟨rfl, hr5, hg5⟩; have n5 := hg5.size; have m5 := heap_grown hg5 m4' (by omega); have a5 := heap_grown hg5 a4' (by omega); have p5 := box_read (i := 4) m5 rfl; have q5 := free_of (j := 4) m5; have m5' : (w5.setCell ⟨w.heap.size + 1, 4, none⟩ (.string c)).heap[w.heap.size + 1]? = some (.cells #[.int .i64 k, .int .i64 f, .int .i64 h, .int .i64 r, .string c, .int .i64 (-1), .int .i64 0, .slice none 0 0] 39 (0, 0)) := heap_set (j := 4) (u := .string c) m5 (by simp); have a5' := heap_other (k := w.heap.size + 1) (j := 4) (u := .string c) a5 (by omega); have u0 := box_read (i := 0) m5' rfl; have t0 := box_read (i := 0) a5' rfl; have e0 := free_of (j := 0) a5'; have u1 := box_read (i := 1) m5' rfl; have t1 := box_read (i := 1) a5' rfl; have e1 := free_of (j := 1) a5'; have u2 := box_read (i := 2) m5' rfl; have t2 := box_read (i := 2) a5' rfl; have e2 := free_of (j := 2) a5'; have u3 := box_read (i := 3) m5' rfl; have t3 := box_read (i := 3) a5' rfl; have e3 := free_of (j := 3) a5'; have u4 := box_read (i := 4) m5' rfl; have t4 := box_read (i := 4) a5' rfl; have e4 := free_of (j := 4) a5'; have u5 := box_read (i := 5) m5' rfl; have t5 := box_read (i := 5) a5' rfl; have e5 := free_of (j := 5) a5'; have u6 := box_read (i := 6) m5' rfl; have t6 := box_read (i := 6) a5' rfl; have e6 := free_of (j := 6) a5'; have u7 := box_read (i := 7) m5' rfl; have t7 := box_read (i := 7) a5' rfl; have e7 := free_of (j := 7) a5')
    | (go_at_call 64; refine (number_is r s4 sh4 R s3 sh3 _ (hr3.set (by omega)) H4.out).mono ?_; rintro e w4 ⟨rfl, hr4, hg4⟩; have n4 := hg4.size; have m4 := heap_grown hg4 m3' (by omega); have a4 := heap_grown hg4 a3' (by omega); have p4 := box_read (i := 3) m4 rfl; have q4 := free_of (j := 3) m4; have m4' : (w4.setCell ⟨w.heap.size + 1, 3, none⟩ (.int .i64 r)).heap[w.heap.size + 1]? = some (.cells #[.int .i64 k, .int .i64 f, .int .i64 h, .int .i64 r, .string ⟨#[]⟩, .int .i64 (-1), .int .i64 0, .slice none 0 0] 39 (0, 0)) := heap_set (j := 3) (u := .int .i64 r) m4 (by simp); have a4' := heap_other (k := w.heap.size + 1) (j := 3) (u := .int .i64 r) a4 (by omega); have y0 := box_read (i := 0) m4' rfl; have y1 := box_read (i := 1) m4' rfl; have y2 := box_read (i := 2) m4' rfl)
    | (go_at_call 64; refine (number_is h s3 sh3 R s2 sh2 _ (hr2.set (by omega)) H3.out).mono ?_; rintro e w3 ⟨rfl, hr3, hg3⟩; have n3 := hg3.size; have m3 := heap_grown hg3 m2' (by omega); have a3 := heap_grown hg3 a2' (by omega); have p3 := box_read (i := 2) m3 rfl; have q3 := free_of (j := 2) m3; have m3' : (w3.setCell ⟨w.heap.size + 1, 2, none⟩ (.int .i64 h)).heap[w.heap.size + 1]? = some (.cells #[.int .i64 k, .int .i64 f, .int .i64 h, .int .i64 0, .string ⟨#[]⟩, .int .i64 (-1), .int .i64 0, .slice none 0 0] 39 (0, 0)) := heap_set (j := 2) (u := .int .i64 h) m3 (by simp); have a3' := heap_other (k := w.heap.size + 1) (j := 2) (u := .int .i64 h) a3 (by omega))
    | (go_at_call 64; refine (number_is f s2 sh2 R s1 sh1 _ (hr1.set (by omega)) H2.out).mono ?_; rintro e w2 ⟨rfl, hr2, hg2⟩; have n2 := hg2.size; have m2 := heap_grown hg2 m1' (by omega); have a2 := heap_grown hg2 a1' (by omega); have p2 := box_read (i := 1) m2 rfl; have q2 := free_of (j := 1) m2; have m2' : (w2.setCell ⟨w.heap.size + 1, 1, none⟩ (.int .i64 f)).heap[w.heap.size + 1]? = some (.cells #[.int .i64 k, .int .i64 f, .int .i64 0, .int .i64 0, .string ⟨#[]⟩, .int .i64 (-1), .int .i64 0, .slice none 0 0] 39 (0, 0)) := heap_set (j := 1) (u := .int .i64 f) m2 (by simp); have a2' := heap_other (k := w.heap.size + 1) (j := 1) (u := .int .i64 f) a2 (by omega))
    | (go_at_call 64; refine (number_is k s1 sh1 R s sh _ (HR.out.alloc.alloc) H1.out).mono ?_; rintro e w1 ⟨rfl, hr1, hg1⟩; have n1 := hg1.size; rw [World.size_alloc, World.size_alloc] at n1; have m1 := heap_grown hg1 HB.out (by omega); have a1 := heap_grown hg1 (box_alloc HA.out) (by omega); have p1 := box_read (i := 0) m1 rfl; have q1 := free_of (j := 0) m1; have m1' : (w1.setCell ⟨w.heap.size + 1, 0, none⟩ (.int .i64 k)).heap[w.heap.size + 1]? = some (.cells #[.int .i64 k, .int .i64 0, .int .i64 0, .int .i64 0, .string ⟨#[]⟩, .int .i64 (-1), .int .i64 0, .slice none 0 0] 39 (0, 0)) := heap_set (j := 0) (u := .int .i64 k) m1 (by simp); have a1' := heap_other (k := w.heap.size + 1) (j := 0) (u := .int .i64 k) a1 (by omega)))
  refine bodyPost_ret (v := mgV ⟨k, f, h, r, c, -1, 0, []⟩ (.slice none 0 0)) (by simp [results, Try.results52, go_sem, t0, t1, t2, t3, t4, t5, t6, t7]) rfl ?_
  have G1 := grown_alloc (grown_alloc hg1)
  have G2 := grown_trans (grown_set (k := w.heap.size + 1) (j := 0) (u := .int .i64 k) G1 (by omega)) hg2
  have G3 := grown_trans (grown_set (k := w.heap.size + 1) (j := 1) (u := .int .i64 f) G2 (by omega)) hg3
  have G4 := grown_trans (grown_set (k := w.heap.size + 1) (j := 2) (u := .int .i64 h) G3 (by omega)) hg4
  have G5 := grown_trans (grown_set (k := w.heap.size + 1) (j := 3) (u := .int .i64 r) G4 (by omega)) hg5
  have RD := ((((((((hr5.set (k := w.heap.size + 1) (j := 4) (u := .string c) (by omega)).set (k := w.heap.size) (j := 0) (u := .int .i64 k) (by omega)).set (k := w.heap.size) (j := 1) (u := .int .i64 f) (by omega)).set (k := w.heap.size) (j := 2) (u := .int .i64 h) (by omega)).set (k := w.heap.size) (j := 3) (u := .int .i64 r) (by omega)).set (k := w.heap.size) (j := 4) (u := .string c) (by omega)).set (k := w.heap.size) (j := 5) (u := .int .i64 (-1)) (by omega)).set (k := w.heap.size) (j := 6) (u := .int .i64 0) (by omega)).set (k := w.heap.size) (j := 7) (u := .slice none 0 0) (by omega)
  have GG := grown_set (k := w.heap.size) (j := 7) (u := .slice none 0 0) (grown_set (k := w.heap.size) (j := 6) (u := .int .i64 0) (grown_set (k := w.heap.size) (j := 5) (u := .int .i64 (-1)) (grown_set (k := w.heap.size) (j := 4) (u := .string c) (grown_set (k := w.heap.size) (j := 3) (u := .int .i64 r) (grown_set (k := w.heap.size) (j := 2) (u := .int .i64 h) (grown_set (k := w.heap.size) (j := 1) (u := .int .i64 f) (grown_set (k := w.heap.size) (j := 0) (u := .int .i64 k) (grown_set (k := w.heap.size + 1) (j := 4) (u := .string c) G5 (by omega)) (Nat.le_refl _)) (Nat.le_refl _)) (Nat.le_refl _)) (Nat.le_refl _)) (Nat.le_refl _)) (Nat.le_refl _)) (Nat.le_refl _)) (Nat.le_refl _)
  exact ⟨rfl, RD, GG⟩

set_option maxRecDepth 100000 in
set_option maxHeartbeats 4000000 in
theorem msg3 (R n : Nat) (k f h r : Int) (s s1 s2 s3 s4 : ByteArray) (sh sh1 sh2 sh3 sh4 : Bool) (s5 : ByteArray) (sh5 : Bool) (c : ByteArray) (w : World) (hr : RdAt w R s sh) (h1 : numB s sh = (k, s1, sh1)) (h2 : numB s1 sh1 = (f, s2, sh2)) (h3 : numB s2 sh2 = (h, s3, sh3)) (h4 : numB s3 sh3 = (r, s4, sh4)) (hz : h * 3 = (n : Int)) (hn : n ≤ 1000) (hh : 0 ≤ h ∧ h ≤ 255) (h5 : textB n s4 sh4 = (c, s5, sh5)) (hk : k = 3) :
    Calls Try.prog 52 #[.pointer (some ⟨R, 0, none⟩)] w fun e w' => e = .returned (mgV ⟨k, f, h, r, c, -1, 0, []⟩ (.slice none 0 0)) ∧ RdAt w' R s5 sh5 ∧ w.grownBy w' (some R) := by
  have H1 := hide h1
  have H2 := hide h2
  have H3 := hide h3
  have H4 := hide h4
  have H5 := hide h5
  clear h5
  have HR := hide hr
  have hlt := hr.lt
  have hA := World.alloc_heap_new w (.cells #[.int .i64 0, .int .i64 0, .int .i64 0, .int .i64 0, .string ⟨#[]⟩, .int .i64 0, .int .i64 0, .slice none 0 0] 39 (0, 0))
  have hB : ((w.alloc (.cells #[.int .i64 0, .int .i64 0, .int .i64 0, .int .i64 0, .string ⟨#[]⟩, .int .i64 0, .int .i64 0, .slice none 0 0] 39)).alloc (.cells #[.int .i64 0, .int .i64 0, .int .i64 0, .int .i64 0, .string ⟨#[]⟩, .int .i64 (-1), .int .i64 0, .slice none 0 0] 39)).heap[w.heap.size + 1]? = some (.cells #[.int .i64 0, .int .i64 0, .int .i64 0, .int .i64 0, .string ⟨#[]⟩, .int .i64 (-1), .int .i64 0, .slice none 0 0] 39 (0, 0)) := by
    have := World.alloc_heap_new (w.alloc (.cells #[.int .i64 0, .int .i64 0, .int .i64 0, .int .i64 0, .string ⟨#[]⟩, .int .i64 0, .int .i64 0, .slice none 0 0] 39)) (.cells #[.int .i64 0, .int .i64 0, .int .i64 0, .int .i64 0, .string ⟨#[]⟩, .int .i64 (-1), .int .i64 0, .slice none 0 0] 39 (0, 0))
    rw [World.size_alloc] at this
    exact this
  have HA := hide hA
  have HB := hide hB
  clear h1 h2 h3 h4 hr hA hB
  have k1 : (k == 1) = false := beq_eq_false_iff_ne.2 (by omega)
  have k2 : (k == 2) = false := beq_eq_false_iff_ne.2 (by omega)
  have k3 : (k == 3) = true := beq_iff_eq.2 hk
  clear hk
  go_enter Try.func52, Try.ntmps52
  go_wp2_with (first
    | (go_at_call 65; refine (text_is c s5 sh5 R n s4 sh4 _ (hr4.set (by omega)) hn H5.out).mono ?_; rintro e w5 ⟨rfl, hr5, hg5⟩; have n5 := hg5.size; have m5 := heap_grown hg5 m4' (by omega); have a5 := heap_grown hg5 a4' (by omega); have p5 := box_read (i := 4) m5 rfl; have q5 := free_of (j := 4) m5; have m5' : (w5.setCell ⟨w.heap.size + 1, 4, none⟩ (.string c)).heap[w.heap.size + 1]? = some (.cells #[.int .i64 k, .int .i64 f, .int .i64 h, .int .i64 r, .string c, .int .i64 (-1), .int .i64 0, .slice none 0 0] 39 (0, 0)) := heap_set (j := 4) (u := .string c) m5 (by simp); have a5' := heap_other (k := w.heap.size + 1) (j := 4) (u := .string c) a5 (by omega); have u0 := box_read (i := 0) m5' rfl; have t0 := box_read (i := 0) a5' rfl; have e0 := free_of (j := 0) a5'; have u1 := box_read (i := 1) m5' rfl; have t1 := box_read (i := 1) a5' rfl; have e1 := free_of (j := 1) a5'; have u2 := box_read (i := 2) m5' rfl; have t2 := box_read (i := 2) a5' rfl; have e2 := free_of (j := 2) a5'; have u3 := box_read (i := 3) m5' rfl; have t3 := box_read (i := 3) a5' rfl; have e3 := free_of (j := 3) a5'; have u4 := box_read (i := 4) m5' rfl; have t4 := box_read (i := 4) a5' rfl; have e4 := free_of (j := 4) a5'; have u5 := box_read (i := 5) m5' rfl; have t5 := box_read (i := 5) a5' rfl; have e5 := free_of (j := 5) a5'; have u6 := box_read (i := 6) m5' rfl; have t6 := box_read (i := 6) a5' rfl; have e6 := free_of (j := 6) a5'; have u7 := box_read (i := 7) m5' rfl; have t7 := box_read (i := 7) a5' rfl; have e7 := free_of (j := 7) a5')
    | (go_at_call 64; refine (number_is r s4 sh4 R s3 sh3 _ (hr3.set (by omega)) H4.out).mono ?_; rintro e w4 ⟨rfl, hr4, hg4⟩; have n4 := hg4.size; have m4 := heap_grown hg4 m3' (by omega); have a4 := heap_grown hg4 a3' (by omega); have p4 := box_read (i := 3) m4 rfl; have q4 := free_of (j := 3) m4; have m4' : (w4.setCell ⟨w.heap.size + 1, 3, none⟩ (.int .i64 r)).heap[w.heap.size + 1]? = some (.cells #[.int .i64 k, .int .i64 f, .int .i64 h, .int .i64 r, .string ⟨#[]⟩, .int .i64 (-1), .int .i64 0, .slice none 0 0] 39 (0, 0)) := heap_set (j := 3) (u := .int .i64 r) m4 (by simp); have a4' := heap_other (k := w.heap.size + 1) (j := 3) (u := .int .i64 r) a4 (by omega); have y0 := box_read (i := 0) m4' rfl; have y1 := box_read (i := 1) m4' rfl; have y2 := box_read (i := 2) m4' rfl)
    | (go_at_call 64; refine (number_is h s3 sh3 R s2 sh2 _ (hr2.set (by omega)) H3.out).mono ?_; rintro e w3 ⟨rfl, hr3, hg3⟩; have n3 := hg3.size; have m3 := heap_grown hg3 m2' (by omega); have a3 := heap_grown hg3 a2' (by omega); have p3 := box_read (i := 2) m3 rfl; have q3 := free_of (j := 2) m3; have m3' : (w3.setCell ⟨w.heap.size + 1, 2, none⟩ (.int .i64 h)).heap[w.heap.size + 1]? = some (.cells #[.int .i64 k, .int .i64 f, .int .i64 h, .int .i64 0, .string ⟨#[]⟩, .int .i64 (-1), .int .i64 0, .slice none 0 0] 39 (0, 0)) := heap_set (j := 2) (u := .int .i64 h) m3 (by simp); have a3' := heap_other (k := w.heap.size + 1) (j := 2) (u := .int .i64 h) a3 (by omega))
    | (go_at_call 64; refine (number_is f s2 sh2 R s1 sh1 _ (hr1.set (by omega)) H2.out).mono ?_; rintro e w2 ⟨rfl, hr2, hg2⟩; have n2 := hg2.size; have m2 := heap_grown hg2 m1' (by omega); have a2 := heap_grown hg2 a1' (by omega); have p2 := box_read (i := 1) m2 rfl; have q2 := free_of (j := 1) m2; have m2' : (w2.setCell ⟨w.heap.size + 1, 1, none⟩ (.int .i64 f)).heap[w.heap.size + 1]? = some (.cells #[.int .i64 k, .int .i64 f, .int .i64 0, .int .i64 0, .string ⟨#[]⟩, .int .i64 (-1), .int .i64 0, .slice none 0 0] 39 (0, 0)) := heap_set (j := 1) (u := .int .i64 f) m2 (by simp); have a2' := heap_other (k := w.heap.size + 1) (j := 1) (u := .int .i64 f) a2 (by omega))
    | (go_at_call 64; refine (number_is k s1 sh1 R s sh _ (HR.out.alloc.alloc) H1.out).mono ?_; rintro e w1 ⟨rfl, hr1, hg1⟩; have n1 := hg1.size; rw [World.size_alloc, World.size_alloc] at n1; have m1 := heap_grown hg1 HB.out (by omega); have a1 := heap_grown hg1 (box_alloc HA.out) (by omega); have p1 := box_read (i := 0) m1 rfl; have q1 := free_of (j := 0) m1; have m1' : (w1.setCell ⟨w.heap.size + 1, 0, none⟩ (.int .i64 k)).heap[w.heap.size + 1]? = some (.cells #[.int .i64 k, .int .i64 0, .int .i64 0, .int .i64 0, .string ⟨#[]⟩, .int .i64 (-1), .int .i64 0, .slice none 0 0] 39 (0, 0)) := heap_set (j := 0) (u := .int .i64 k) m1 (by simp); have a1' := heap_other (k := w.heap.size + 1) (j := 0) (u := .int .i64 k) a1 (by omega)))
  refine bodyPost_ret (v := mgV ⟨k, f, h, r, c, -1, 0, []⟩ (.slice none 0 0)) (by simp [results, Try.results52, go_sem, t0, t1, t2, t3, t4, t5, t6, t7]) rfl ?_
  have G1 := grown_alloc (grown_alloc hg1)
  have G2 := grown_trans (grown_set (k := w.heap.size + 1) (j := 0) (u := .int .i64 k) G1 (by omega)) hg2
  have G3 := grown_trans (grown_set (k := w.heap.size + 1) (j := 1) (u := .int .i64 f) G2 (by omega)) hg3
  have G4 := grown_trans (grown_set (k := w.heap.size + 1) (j := 2) (u := .int .i64 h) G3 (by omega)) hg4
  have G5 := grown_trans (grown_set (k := w.heap.size + 1) (j := 3) (u := .int .i64 r) G4 (by omega)) hg5
  have RD := ((((((((hr5.set (k := w.heap.size + 1) (j := 4) (u := .string c) (by omega)).set (k := w.heap.size) (j := 0) (u := .int .i64 k) (by omega)).set (k := w.heap.size) (j := 1) (u := .int .i64 f) (by omega)).set (k := w.heap.size) (j := 2) (u := .int .i64 h) (by omega)).set (k := w.heap.size) (j := 3) (u := .int .i64 r) (by omega)).set (k := w.heap.size) (j := 4) (u := .string c) (by omega)).set (k := w.heap.size) (j := 5) (u := .int .i64 (-1)) (by omega)).set (k := w.heap.size) (j := 6) (u := .int .i64 0) (by omega)).set (k := w.heap.size) (j := 7) (u := .slice none 0 0) (by omega)
  have GG := grown_set (k := w.heap.size) (j := 7) (u := .slice none 0 0) (grown_set (k := w.heap.size) (j := 6) (u := .int .i64 0) (grown_set (k := w.heap.size) (j := 5) (u := .int .i64 (-1)) (grown_set (k := w.heap.size) (j := 4) (u := .string c) (grown_set (k := w.heap.size) (j := 3) (u := .int .i64 r) (grown_set (k := w.heap.size) (j := 2) (u := .int .i64 h) (grown_set (k := w.heap.size) (j := 1) (u := .int .i64 f) (grown_set (k := w.heap.size) (j := 0) (u := .int .i64 k) (grown_set (k := w.heap.size + 1) (j := 4) (u := .string c) G5 (by omega)) (Nat.le_refl _)) (Nat.le_refl _)) (Nat.le_refl _)) (Nat.le_refl _)) (Nat.le_refl _)) (Nat.le_refl _)) (Nat.le_refl _)) (Nat.le_refl _)
  exact ⟨rfl, RD, GG⟩

set_option maxRecDepth 100000 in
set_option maxHeartbeats 4000000 in
theorem msg5 (R n : Nat) (k f h r : Int) (s s1 s2 s3 s4 : ByteArray) (sh sh1 sh2 sh3 sh4 : Bool) (s5 : ByteArray) (sh5 : Bool) (c : ByteArray) (s6 : ByteArray) (sh6 : Bool) (b : Int) (w : World) (hr : RdAt w R s sh) (h1 : numB s sh = (k, s1, sh1)) (h2 : numB s1 sh1 = (f, s2, sh2)) (h3 : numB s2 sh2 = (h, s3, sh3)) (h4 : numB s3 sh3 = (r, s4, sh4)) (hz : h * 3 = (n : Int)) (hn : n ≤ 1000) (hh : 0 ≤ h ∧ h ≤ 255) (h5 : textB n s4 sh4 = (c, s5, sh5)) (h6 : numB s5 sh5 = (b, s6, sh6)) (hk : k = 5) :
    Calls Try.prog 52 #[.pointer (some ⟨R, 0, none⟩)] w fun e w' => e = .returned (mgV ⟨k, f, h, r, c, -1, b, []⟩ (.slice none 0 0)) ∧ RdAt w' R s6 sh6 ∧ w.grownBy w' (some R) := by
  have H1 := hide h1
  have H2 := hide h2
  have H3 := hide h3
  have H4 := hide h4
  have H5 := hide h5
  clear h5
  have H6 := hide h6
  clear h6
  have HR := hide hr
  have hlt := hr.lt
  have hA := World.alloc_heap_new w (.cells #[.int .i64 0, .int .i64 0, .int .i64 0, .int .i64 0, .string ⟨#[]⟩, .int .i64 0, .int .i64 0, .slice none 0 0] 39 (0, 0))
  have hB : ((w.alloc (.cells #[.int .i64 0, .int .i64 0, .int .i64 0, .int .i64 0, .string ⟨#[]⟩, .int .i64 0, .int .i64 0, .slice none 0 0] 39)).alloc (.cells #[.int .i64 0, .int .i64 0, .int .i64 0, .int .i64 0, .string ⟨#[]⟩, .int .i64 (-1), .int .i64 0, .slice none 0 0] 39)).heap[w.heap.size + 1]? = some (.cells #[.int .i64 0, .int .i64 0, .int .i64 0, .int .i64 0, .string ⟨#[]⟩, .int .i64 (-1), .int .i64 0, .slice none 0 0] 39 (0, 0)) := by
    have := World.alloc_heap_new (w.alloc (.cells #[.int .i64 0, .int .i64 0, .int .i64 0, .int .i64 0, .string ⟨#[]⟩, .int .i64 0, .int .i64 0, .slice none 0 0] 39)) (.cells #[.int .i64 0, .int .i64 0, .int .i64 0, .int .i64 0, .string ⟨#[]⟩, .int .i64 (-1), .int .i64 0, .slice none 0 0] 39 (0, 0))
    rw [World.size_alloc] at this
    exact this
  have HA := hide hA
  have HB := hide hB
  clear h1 h2 h3 h4 hr hA hB
  have k1 : (k == 1) = false := beq_eq_false_iff_ne.2 (by omega)
  have k2 : (k == 2) = false := beq_eq_false_iff_ne.2 (by omega)
  have k3 : (k == 3) = false := beq_eq_false_iff_ne.2 (by omega)
  have k4 : (k == 4) = false := beq_eq_false_iff_ne.2 (by omega)
  have k5 : (k == 5) = true := beq_iff_eq.2 hk
  clear hk
  go_enter Try.func52, Try.ntmps52
  go_wp2_with (first
    | (go_at_call 64; refine (number_is b s6 sh6 R s5 sh5 _ (hr5.set (by omega)) H6.out).mono ?_; rintro e w6 ⟨rfl, hr6, hg6⟩; have n6 := hg6.size; have m6 := heap_grown hg6 m5' (by omega); have a6 := heap_grown hg6 a5' (by omega); have p6 := box_read (i := 6) m6 rfl; have q6 := free_of (j := 6) m6; have m6' : (w6.setCell ⟨w.heap.size + 1, 6, none⟩ (.int .i64 b)).heap[w.heap.size + 1]? = some (.cells #[.int .i64 k, .int .i64 f, .int .i64 h, .int .i64 r, .string c, .int .i64 (-1), .int .i64 b, .slice none 0 0] 39 (0, 0)) := heap_set (j := 6) (u := .int .i64 b) m6 (by simp); have a6' := heap_other (k := w.heap.size + 1) (j := 6) (u := .int .i64 b) a6 (by omega); have u0 := box_read (i := 0) m6' rfl; have t0 := box_read (i := 0) a6' rfl; have e0 := free_of (j := 0) a6'; have u1 := box_read (i := 1) m6' rfl; have t1 := box_read (i := 1) a6' rfl; have e1 := free_of (j := 1) a6'; have u2 := box_read (i := 2) m6' rfl; have t2 := box_read (i := 2) a6' rfl; have e2 := free_of (j := 2) a6'; have u3 := box_read (i := 3) m6' rfl; have t3 := box_read (i := 3) a6' rfl; have e3 := free_of (j := 3) a6'; have u4 := box_read (i := 4) m6' rfl; have t4 := box_read (i := 4) a6' rfl; have e4 := free_of (j := 4) a6'; have u5 := box_read (i := 5) m6' rfl; have t5 := box_read (i := 5) a6' rfl; have e5 := free_of (j := 5) a6'; have u6 := box_read (i := 6) m6' rfl; have t6 := box_read (i := 6) a6' rfl; have e6 := free_of (j := 6) a6'; have u7 := box_read (i := 7) m6' rfl; have t7 := box_read (i := 7) a6' rfl; have e7 := free_of (j := 7) a6')
    | (go_at_call 65; refine (text_is c s5 sh5 R n s4 sh4 _ (hr4.set (by omega)) hn H5.out).mono ?_; rintro e w5 ⟨rfl, hr5, hg5⟩; have n5 := hg5.size; have m5 := heap_grown hg5 m4' (by omega); have a5 := heap_grown hg5 a4' (by omega); have p5 := box_read (i := 4) m5 rfl; have q5 := free_of (j := 4) m5; have m5' : (w5.setCell ⟨w.heap.size + 1, 4, none⟩ (.string c)).heap[w.heap.size + 1]? = some (.cells #[.int .i64 k, .int .i64 f, .int .i64 h, .int .i64 r, .string c, .int .i64 (-1), .int .i64 0, .slice none 0 0] 39 (0, 0)) := heap_set (j := 4) (u := .string c) m5 (by simp); have a5' := heap_other (k := w.heap.size + 1) (j := 4) (u := .string c) a5 (by omega))
    | (go_at_call 64; refine (number_is r s4 sh4 R s3 sh3 _ (hr3.set (by omega)) H4.out).mono ?_; rintro e w4 ⟨rfl, hr4, hg4⟩; have n4 := hg4.size; have m4 := heap_grown hg4 m3' (by omega); have a4 := heap_grown hg4 a3' (by omega); have p4 := box_read (i := 3) m4 rfl; have q4 := free_of (j := 3) m4; have m4' : (w4.setCell ⟨w.heap.size + 1, 3, none⟩ (.int .i64 r)).heap[w.heap.size + 1]? = some (.cells #[.int .i64 k, .int .i64 f, .int .i64 h, .int .i64 r, .string ⟨#[]⟩, .int .i64 (-1), .int .i64 0, .slice none 0 0] 39 (0, 0)) := heap_set (j := 3) (u := .int .i64 r) m4 (by simp); have a4' := heap_other (k := w.heap.size + 1) (j := 3) (u := .int .i64 r) a4 (by omega); have y0 := box_read (i := 0) m4' rfl; have y1 := box_read (i := 1) m4' rfl; have y2 := box_read (i := 2) m4' rfl)
    | (go_at_call 64; refine (number_is h s3 sh3 R s2 sh2 _ (hr2.set (by omega)) H3.out).mono ?_; rintro e w3 ⟨rfl, hr3, hg3⟩; have n3 := hg3.size; have m3 := heap_grown hg3 m2' (by omega); have a3 := heap_grown hg3 a2' (by omega); have p3 := box_read (i := 2) m3 rfl; have q3 := free_of (j := 2) m3; have m3' : (w3.setCell ⟨w.heap.size + 1, 2, none⟩ (.int .i64 h)).heap[w.heap.size + 1]? = some (.cells #[.int .i64 k, .int .i64 f, .int .i64 h, .int .i64 0, .string ⟨#[]⟩, .int .i64 (-1), .int .i64 0, .slice none 0 0] 39 (0, 0)) := heap_set (j := 2) (u := .int .i64 h) m3 (by simp); have a3' := heap_other (k := w.heap.size + 1) (j := 2) (u := .int .i64 h) a3 (by omega))
    | (go_at_call 64; refine (number_is f s2 sh2 R s1 sh1 _ (hr1.set (by omega)) H2.out).mono ?_; rintro e w2 ⟨rfl, hr2, hg2⟩; have n2 := hg2.size; have m2 := heap_grown hg2 m1' (by omega); have a2 := heap_grown hg2 a1' (by omega); have p2 := box_read (i := 1) m2 rfl; have q2 := free_of (j := 1) m2; have m2' : (w2.setCell ⟨w.heap.size + 1, 1, none⟩ (.int .i64 f)).heap[w.heap.size + 1]? = some (.cells #[.int .i64 k, .int .i64 f, .int .i64 0, .int .i64 0, .string ⟨#[]⟩, .int .i64 (-1), .int .i64 0, .slice none 0 0] 39 (0, 0)) := heap_set (j := 1) (u := .int .i64 f) m2 (by simp); have a2' := heap_other (k := w.heap.size + 1) (j := 1) (u := .int .i64 f) a2 (by omega))
    | (go_at_call 64; refine (number_is k s1 sh1 R s sh _ (HR.out.alloc.alloc) H1.out).mono ?_; rintro e w1 ⟨rfl, hr1, hg1⟩; have n1 := hg1.size; rw [World.size_alloc, World.size_alloc] at n1; have m1 := heap_grown hg1 HB.out (by omega); have a1 := heap_grown hg1 (box_alloc HA.out) (by omega); have p1 := box_read (i := 0) m1 rfl; have q1 := free_of (j := 0) m1; have m1' : (w1.setCell ⟨w.heap.size + 1, 0, none⟩ (.int .i64 k)).heap[w.heap.size + 1]? = some (.cells #[.int .i64 k, .int .i64 0, .int .i64 0, .int .i64 0, .string ⟨#[]⟩, .int .i64 (-1), .int .i64 0, .slice none 0 0] 39 (0, 0)) := heap_set (j := 0) (u := .int .i64 k) m1 (by simp); have a1' := heap_other (k := w.heap.size + 1) (j := 0) (u := .int .i64 k) a1 (by omega)))
  refine bodyPost_ret (v := mgV ⟨k, f, h, r, c, -1, b, []⟩ (.slice none 0 0)) (by simp [results, Try.results52, go_sem, t0, t1, t2, t3, t4, t5, t6, t7]) rfl ?_
  have G1 := grown_alloc (grown_alloc hg1)
  have G2 := grown_trans (grown_set (k := w.heap.size + 1) (j := 0) (u := .int .i64 k) G1 (by omega)) hg2
  have G3 := grown_trans (grown_set (k := w.heap.size + 1) (j := 1) (u := .int .i64 f) G2 (by omega)) hg3
  have G4 := grown_trans (grown_set (k := w.heap.size + 1) (j := 2) (u := .int .i64 h) G3 (by omega)) hg4
  have G5 := grown_trans (grown_set (k := w.heap.size + 1) (j := 3) (u := .int .i64 r) G4 (by omega)) hg5
  have G6 := grown_trans (grown_set (k := w.heap.size + 1) (j := 4) (u := .string c) G5 (by omega)) hg6
  have RD := ((((((((hr6.set (k := w.heap.size + 1) (j := 6) (u := .int .i64 b) (by omega)).set (k := w.heap.size) (j := 0) (u := .int .i64 k) (by omega)).set (k := w.heap.size) (j := 1) (u := .int .i64 f) (by omega)).set (k := w.heap.size) (j := 2) (u := .int .i64 h) (by omega)).set (k := w.heap.size) (j := 3) (u := .int .i64 r) (by omega)).set (k := w.heap.size) (j := 4) (u := .string c) (by omega)).set (k := w.heap.size) (j := 5) (u := .int .i64 (-1)) (by omega)).set (k := w.heap.size) (j := 6) (u := .int .i64 b) (by omega)).set (k := w.heap.size) (j := 7) (u := .slice none 0 0) (by omega)
  have GG := grown_set (k := w.heap.size) (j := 7) (u := .slice none 0 0) (grown_set (k := w.heap.size) (j := 6) (u := .int .i64 b) (grown_set (k := w.heap.size) (j := 5) (u := .int .i64 (-1)) (grown_set (k := w.heap.size) (j := 4) (u := .string c) (grown_set (k := w.heap.size) (j := 3) (u := .int .i64 r) (grown_set (k := w.heap.size) (j := 2) (u := .int .i64 h) (grown_set (k := w.heap.size) (j := 1) (u := .int .i64 f) (grown_set (k := w.heap.size) (j := 0) (u := .int .i64 k) (grown_set (k := w.heap.size + 1) (j := 6) (u := .int .i64 b) G6 (by omega)) (Nat.le_refl _)) (Nat.le_refl _)) (Nat.le_refl _)) (Nat.le_refl _)) (Nat.le_refl _)) (Nat.le_refl _)) (Nat.le_refl _)) (Nat.le_refl _)
  exact ⟨rfl, RD, GG⟩
end Go.Proofs.Ytpecfjejfkcolaa
