import Derived.Test.YtpecfjejfkcolaaPart28
import Derived.Laws.CopyOwn
/- mootref.Decode at a kind. -/
namespace Go.Proofs.Ytpecfjejfkcolaa
open Go.RowKit Go.Shelf
set_option linter.unusedVariables false

set_option maxRecDepth 100000 in
set_option maxHeartbeats 4000000 in
theorem refDec5 (s : ByteArray) (k f h r : Int) (n : Nat) (c : ByteArray) (b : Int) (w : World) (hs : s.size ≤ maxLen) (h0 : atB s 0 = k) (h1 : atB s 1 = f) (h2 : atB s 2 = h) (h3 : atB s 3 = r) (hn : 3 * h = (n : Int)) (hh : 0 ≤ h ∧ h ≤ 255) (hc : s.extract 4 (4 + n) = c) (hcs : c.size ≤ 1000) (h5 : atB s (4 + n) = b) (hp : posMsg s = ⟨k, f, h, r, c, -1, b, []⟩) (hk : k = 5) :
    Calls Try.prog 19 #[.string s] w (RefPost s w) := by
  obtain ⟨t, er, he⟩ := encRes_two ⟨k, f, h, r, c, -1, b, []⟩
  have hfl := dec_flags hp he
  obtain ⟨b1, hb1⟩ : ∃ x, (er == 0) = x := ⟨_, rfl⟩
  obtain ⟨b2, hb2⟩ : ∃ x, (t.toList == s.toList) = x := ⟨_, rfl⟩
  rw [hb1, hb2] at hfl
  have HFL := hide hfl
  have HENC := hide (fun W => refEnc_nil ⟨k, f, h, r, c, -1, b, []⟩ W rfl (Nat.le_trans hcs (by unfold maxLen; decide)))
  rw [he] at HENC
  have HP := hide hp
  have K0 : Hid (atB s (0 : Int).toNat = k) := h0
  have K1 : Hid (atB s (1 : Int).toNat = f) := h1
  have K2 : Hid (atB s (2 : Int).toNat = h) := h2
  have K3 : Hid (atB s (3 : Int).toNat = r) := h3
  have HA0 := box_alloc (o' := .cells #[.int .i64 k, .int .i64 f, .int .i64 h, .int .i64 r, .string c, .int .i64 (-1), .int .i64 b, .slice none 0 0] 39) (World.alloc_heap_new w (.cells #[.int .i64 0, .int .i64 0, .int .i64 0, .int .i64 0, .string ⟨#[]⟩, .int .i64 0, .int .i64 0, .slice none 0 0] 39 (0, 0)))
  have HB0 : (((w.alloc (.cells #[.int .i64 0, .int .i64 0, .int .i64 0, .int .i64 0, .string ⟨#[]⟩, .int .i64 0, .int .i64 0, .slice none 0 0] 39)).alloc (.cells #[.int .i64 k, .int .i64 f, .int .i64 h, .int .i64 r, .string c, .int .i64 (-1), .int .i64 b, .slice none 0 0] 39))).heap[w.heap.size + 1]? = some (.cells #[.int .i64 k, .int .i64 f, .int .i64 h, .int .i64 r, .string c, .int .i64 (-1), .int .i64 b, .slice none 0 0] 39 (0, 0)) := by
    have := World.alloc_heap_new (w.alloc (.cells #[.int .i64 0, .int .i64 0, .int .i64 0, .int .i64 0, .string ⟨#[]⟩, .int .i64 0, .int .i64 0, .slice none 0 0] 39)) (.cells #[.int .i64 k, .int .i64 f, .int .i64 h, .int .i64 r, .string c, .int .i64 (-1), .int .i64 b, .slice none 0 0] 39 (0, 0))
    rw [World.size_alloc] at this
    exact this
  have HA := hide HA0
  have HB := hide HB0
  have hbw : Below w.heap.size w ((w.alloc (.cells #[.int .i64 0, .int .i64 0, .int .i64 0, .int .i64 0, .string ⟨#[]⟩, .int .i64 0, .int .i64 0, .slice none 0 0] 39)).alloc (.cells #[.int .i64 k, .int .i64 f, .int .i64 h, .int .i64 r, .string c, .int .i64 (-1), .int .i64 b, .slice none 0 0] 39)) := (((Below.refl _ w).alloc (Nat.le_refl _) _).alloc (by simp) _)
  have HBW := hide hbw
  have HC : Hid (s.extract (4 : Int).toNat ((4 : Int).toNat + (n : Int).toNat) = c) := by rw [Int.toNat_natCast]; exact hc
  clear hc
  have K5 : Hid (atB s ((4 : Int) + (n : Int)).toNat = b) := by rw [← h5]; exact congrArg (atB s) (by omega)
  clear h5
  have k1 : (k == 1) = false := beq_eq_false_iff_ne.2 (by omega)
  have k2 : (k == 2) = false := beq_eq_false_iff_ne.2 (by omega)
  have k3 : (k == 3) = false := beq_eq_false_iff_ne.2 (by omega)
  have k4 : (k == 4) = false := beq_eq_false_iff_ne.2 (by omega)
  have k5 : (k == 5) = true := beq_iff_eq.2 hk
  clear h0 h1 h2 h3 hp he hfl HA0 HB0 hbw hk
  go_enter Try.func19, Try.ntmps19
  go_wp2_with (first
    | (go_at_call 34; refine (at_is s _ _ hs (by omega) (by omega)).mono ?_; rintro e w' ⟨rfl, rfl⟩; first | rw [K0.out] | rw [K1.out] | rw [K2.out] | rw [K3.out] | rw [K5.out])
    | (go_at_call 16; refine (HENC.out _).mono ?_; rintro e w3 ⟨rfl, hb3⟩; have a3 := (hb3.block _ (lt_of_block HA.out)).trans HA.out; have x3 := (hb3.block _ (lt_of_block HB.out)).trans HB.out; have t0 := box_read (i := 0) a3 rfl; have e0 := free_of (j := 0) a3; have c0 := box_read (i := 0) x3 rfl; have t1 := box_read (i := 1) a3 rfl; have e1 := free_of (j := 1) a3; have c1 := box_read (i := 1) x3 rfl; have t2 := box_read (i := 2) a3 rfl; have e2 := free_of (j := 2) a3; have c2 := box_read (i := 2) x3 rfl; have t3 := box_read (i := 3) a3 rfl; have e3 := free_of (j := 3) a3; have c3 := box_read (i := 3) x3 rfl; have t4 := box_read (i := 4) a3 rfl; have e4 := free_of (j := 4) a3; have c4 := box_read (i := 4) x3 rfl; have t5 := box_read (i := 5) a3 rfl; have e5 := free_of (j := 5) a3; have c5 := box_read (i := 5) x3 rfl; have t6 := box_read (i := 6) a3 rfl; have e6 := free_of (j := 6) a3; have c6 := box_read (i := 6) x3 rfl; have t7 := box_read (i := 7) a3 rfl; have e7 := free_of (j := 7) a3; have c7 := box_read (i := 7) x3 rfl)
    | (go_at_call 35; refine (cut_is s _ _ _ hs (by omega) (by omega) (by omega) (by omega)).mono ?_; rintro e w' ⟨rfl, rfl⟩; rw [HC.out]))
  all_goals have B3 := HBW.out.trans (hb3.mono HBW.out.size)
  · refine bodyPost_ret (v := .tuple #[noMsg, .int .i64 2]) (by simp [results, Try.results19, go_sem, t0, t1, t2, t3, t4, t5, t6, t7]) rfl ⟨.inr ⟨?_, rfl⟩, ((((((((B3.setCell (p := ⟨w.heap.size, 0, none⟩) (Nat.le_refl _) _).setCell (p := ⟨w.heap.size, 1, none⟩) (Nat.le_refl _) _).setCell (p := ⟨w.heap.size, 2, none⟩) (Nat.le_refl _) _).setCell (p := ⟨w.heap.size, 3, none⟩) (Nat.le_refl _) _).setCell (p := ⟨w.heap.size, 4, none⟩) (Nat.le_refl _) _).setCell (p := ⟨w.heap.size, 5, none⟩) (Nat.le_refl _) _).setCell (p := ⟨w.heap.size, 6, none⟩) (Nat.le_refl _) _).setCell (p := ⟨w.heap.size, 7, none⟩) (Nat.le_refl _) _)⟩
    have q : (!b2) = true := by assumption
    have q' : b2 = false := by simpa using q
    rw [HFL.out, q', Bool.and_false]
  · refine bodyPost_ret (v := .tuple #[mgV ⟨k, f, h, r, c, -1, b, []⟩ (.slice none 0 0), .int .i64 0]) (by simp [results, Try.results19, go_sem, t0, t1, t2, t3, t4, t5, t6, t7]) rfl ⟨.inl ⟨?_, ?_, ?_⟩, ((((((((B3.setCell (p := ⟨w.heap.size, 0, none⟩) (Nat.le_refl _) _).setCell (p := ⟨w.heap.size, 1, none⟩) (Nat.le_refl _) _).setCell (p := ⟨w.heap.size, 2, none⟩) (Nat.le_refl _) _).setCell (p := ⟨w.heap.size, 3, none⟩) (Nat.le_refl _) _).setCell (p := ⟨w.heap.size, 4, none⟩) (Nat.le_refl _) _).setCell (p := ⟨w.heap.size, 5, none⟩) (Nat.le_refl _) _).setCell (p := ⟨w.heap.size, 6, none⟩) (Nat.le_refl _) _).setCell (p := ⟨w.heap.size, 7, none⟩) (Nat.le_refl _) _)⟩
    · have q : (!b2) = false := by assumption
      have q' : b2 = true := by simpa using q
      have q1 : er = 0 := by assumption
      rw [HFL.out, ← hb1, q', q1]; rfl
    · rw [HP.out]
    · rw [HP.out]
  · refine bodyPost_ret (v := .tuple #[noMsg, .int .i64 2]) (by simp [results, Try.results19, go_sem, t0, t1, t2, t3, t4, t5, t6, t7]) rfl ⟨.inr ⟨?_, rfl⟩, ((((((((B3.setCell (p := ⟨w.heap.size, 0, none⟩) (Nat.le_refl _) _).setCell (p := ⟨w.heap.size, 1, none⟩) (Nat.le_refl _) _).setCell (p := ⟨w.heap.size, 2, none⟩) (Nat.le_refl _) _).setCell (p := ⟨w.heap.size, 3, none⟩) (Nat.le_refl _) _).setCell (p := ⟨w.heap.size, 4, none⟩) (Nat.le_refl _) _).setCell (p := ⟨w.heap.size, 5, none⟩) (Nat.le_refl _) _).setCell (p := ⟨w.heap.size, 6, none⟩) (Nat.le_refl _) _).setCell (p := ⟨w.heap.size, 7, none⟩) (Nat.le_refl _) _)⟩
    have q : ¬ er = 0 := by assumption
    rw [HFL.out, ← hb1, beq_eq_false_iff_ne.2 q, Bool.false_and]
end Go.Proofs.Ytpecfjejfkcolaa

/- mootref.Decode of any bytes. -/
namespace Go.Proofs.Ytpecfjejfkcolaa
open Go.RowKit Go.Shelf
set_option linter.unusedVariables false

theorem posMsg_eq (s : ByteArray) {n : Nat} (hn : (3 * atB s 2).toNat = n) : posMsg s =
    if atB s 0 = 1 then ⟨atB s 0, atB s 1, atB s 2, atB s 3, s.extract 4 (4 + n), -1, 0, posMoves n (atB s (4 + n)).toNat s (5 + n)⟩
    else if atB s 0 = 2 ∨ atB s 0 = 3 then ⟨atB s 0, atB s 1, atB s 2, atB s 3, s.extract 4 (4 + n), -1, 0, []⟩
    else if atB s 0 = 4 then ⟨atB s 0, atB s 1, atB s 2, atB s 3, (moveAtB s 4 n).2.1, (moveAtB s 4 n).1, (moveAtB s 4 n).2.2.1, []⟩
    else if atB s 0 = 5 then ⟨atB s 0, atB s 1, atB s 2, atB s 3, s.extract 4 (4 + n), -1, atB s (4 + n), []⟩
    else ⟨atB s 0, atB s 1, atB s 2, atB s 3, ⟨#[]⟩, -1, 0, []⟩ := by subst hn; rfl
theorem refDecode_any (s : ByteArray) (w : World) (hs : s.size ≤ maxLen) : Calls Try.prog 19 #[.string s] w (RefPostM s w) := by
  have hb := atB_bound s 2
  obtain ⟨n, hn⟩ : ∃ n, (3 * atB s 2).toNat = n := ⟨_, rfl⟩
  have hn' : 3 * atB s 2 = (n : Int) := by omega
  have hp := posMsg_eq s hn
  have hc : (s.extract 4 (4 + n)).size ≤ 1000 := by
    have := cut_le s 4 n
    omega
  by_cases k1 : atB s 0 = 1
  · have hb5 := atB_bound s (4 + n)
    rw [if_pos k1, k1] at hp
    exact refDec1 s _ _ _ n (atB s (4 + n)).toNat _ w hs k1 rfl rfl rfl hn' hb rfl hc (by omega) (by omega) hp
  rw [if_neg k1] at hp
  by_cases k2 : atB s 0 = 2
  · rw [if_pos (.inl k2)] at hp
    exact (refDec2 s _ _ _ _ n _ w hs rfl rfl rfl rfl hn' hb rfl hc hp k2).mono fun e w' h => h.any
  by_cases k3 : atB s 0 = 3
  · rw [if_pos (.inr k3)] at hp
    exact (refDec3 s _ _ _ _ n _ w hs rfl rfl rfl rfl hn' hb rfl hc hp k3).mono fun e w' h => h.any
  rw [if_neg (by omega)] at hp
  by_cases k4 : atB s 0 = 4
  · rw [if_pos k4] at hp
    have hm := moveAtB_size s 4 n
    obtain ⟨p, c, b, q, hq⟩ : ∃ p c b q, moveAtB s 4 n = (p, c, b, q) := ⟨_, _, _, _, rfl⟩
    rw [hq] at hp hm
    dsimp only at hp hm
    exact (refDec4 s _ _ _ _ n c p b q w hs rfl rfl rfl rfl hn' hb (by omega) hq hp k4).mono fun e w' h => h.any
  rw [if_neg k4] at hp
  by_cases k5 : atB s 0 = 5
  · rw [if_pos k5] at hp
    exact (refDec5 s _ _ _ _ n _ _ w hs rfl rfl rfl rfl hn' hb rfl hc rfl hp k5).mono fun e w' h => h.any
  rw [if_neg k5] at hp
  exact (refDec0 s _ _ _ _ n w hs rfl rfl rfl rfl hn' hb hp (by omega)).mono fun e w' h => h.any
end Go.Proofs.Ytpecfjejfkcolaa

/- The law's sameMsg of two messages that are the same. -/
namespace Go.Proofs.Ytpecfjejfkcolaa
open Go.RowKit Go.Shelf
set_option linter.unusedVariables false

/-- what MovesAt says, laid open at a place -/
theorem MovesAt.open' {w : World} {v : Value} {l : List Mv} (h : MovesAt w v l) : ∃ ao cap, v = .slice ao l.length cap ∧ (0 < l.length → ∃ b off, ao = some ⟨b, off, none⟩ ∧ b < w.heap.size ∧ ∀ i (h : i < l.length),
    w.cell? ⟨b, off + i * 4, none⟩ = some (.int .i64 l[i].node) ∧ w.cell? ⟨b, off + i * 4 + 1, none⟩ = some (.int .i64 l[i].prep) ∧ w.cell? ⟨b, off + i * 4 + 2, none⟩ = some (.string l[i].chain) ∧ w.cell? ⟨b, off + i * 4 + 3, none⟩ = some (.int .i64 l[i].by')) := h.1
set_option maxRecDepth 100000 in
set_option maxHeartbeats 4000000 in
theorem sameMsg_same (m : Mg) (va vb : Value) (w : World) (ha : MovesAt w va m.moves) (hb : MovesAt w vb m.moves) :
    Calls Try.prog 20 #[mgV m va, mgV m vb] w fun e w' => e = .returned (.bool true) ∧ Below w.heap.size w w' := by
  obtain ⟨k, f, h, r, c, p, b, l⟩ := m
  dsimp only at ha hb
  have hll := ha.2.2
  have hW : Below w.heap.size w ((w.alloc (.cells #[.int .i64 k, .int .i64 f, .int .i64 h, .int .i64 r, .string c, .int .i64 p, .int .i64 b, va] 39)).alloc (.cells #[.int .i64 k, .int .i64 f, .int .i64 h, .int .i64 r, .string c, .int .i64 p, .int .i64 b, vb] 39)) := ((Below.refl _ w).alloc (Nat.le_refl _) _).alloc (by simp) _
  have HX := box_alloc (o' := .cells #[.int .i64 k, .int .i64 f, .int .i64 h, .int .i64 r, .string c, .int .i64 p, .int .i64 b, vb] 39) (World.alloc_heap_new w (.cells #[.int .i64 k, .int .i64 f, .int .i64 h, .int .i64 r, .string c, .int .i64 p, .int .i64 b, va] 39 (0, 0)))
  have HY : ((w.alloc (.cells #[.int .i64 k, .int .i64 f, .int .i64 h, .int .i64 r, .string c, .int .i64 p, .int .i64 b, va] 39)).alloc (.cells #[.int .i64 k, .int .i64 f, .int .i64 h, .int .i64 r, .string c, .int .i64 p, .int .i64 b, vb] 39)).heap[w.heap.size + 1]? = some (.cells #[.int .i64 k, .int .i64 f, .int .i64 h, .int .i64 r, .string c, .int .i64 p, .int .i64 b, vb] 39 (0, 0)) := by
    have := World.alloc_heap_new (w.alloc (.cells #[.int .i64 k, .int .i64 f, .int .i64 h, .int .i64 r, .string c, .int .i64 p, .int .i64 b, va] 39)) (.cells #[.int .i64 k, .int .i64 f, .int .i64 h, .int .i64 r, .string c, .int .i64 p, .int .i64 b, vb] 39 (0, 0))
    rw [World.size_alloc] at this
    exact this
  obtain ⟨ao, ca, rfl, hca⟩ := (ha.below hW).open'
  obtain ⟨bo, cb, rfl, hcb⟩ := (hb.below hW).open'
  have x7 := box_read (i := 7) HX rfl
  have y7 := box_read (i := 7) HY rfl
  have HCA := hide hca
  have HCB := hide hcb
  have HHX := hide HX
  have HHY := hide HY
  have HW := hide hW
  clear hca hcb ha hb HX HY hW
  go_enter Try.func20, Try.ntmps20
  go_wp2
  obtain ⟨W, hWW⟩ : ∃ W, (w.alloc (.cells #[.int .i64 k, .int .i64 f, .int .i64 h, .int .i64 r, .string c, .int .i64 p, .int .i64 b, .slice ao l.length ca] 39)).alloc (.cells #[.int .i64 k, .int .i64 f, .int .i64 h, .int .i64 r, .string c, .int .i64 p, .int .i64 b, .slice bo l.length cb] 39) = W := ⟨_, rfl⟩
  rw [hWW] at x7 y7 HCA HCB HW ⊢
  clear HHX HHY hWW
  go_loopw [5] (fun i wr => ∃ (j n : Nat), j ≤ l.length ∧ i = .int .i64 (j : Int) ∧ wr = W.drewN n) (fun i _ => l.length - (intOf i).toNat)
  case atStart => exact ⟨0, 0, by omega, rfl, rfl⟩
  case round =>
    obtain ⟨j, n, hj, rfl, rfl⟩ := hrel
    by_cases hlt : j < l.length
    · obtain ⟨g, o, rfl, _, hg⟩ := HCA.out (by omega)
      obtain ⟨g2, o2, rfl, _, hg2⟩ := HCB.out (by omega)
      obtain ⟨a0, a1, a2, a3⟩ := hg j hlt
      obtain ⟨d0, d1, d2, d3⟩ := hg2 j hlt
      obtain ⟨x, hx⟩ : ∃ x, l[j] = x := ⟨_, rfl⟩
      rw [hx] at a0 a1 a2 a3 d0 d1 d2 d3
      obtain ⟨xn, xp, xc, xb⟩ := x
      dsimp only at a0 a1 a2 a3 d0 d1 d2 d3
      clear hx hg hg2
      have i0 : (0 : Int) ≤ (j : Int) := by omega
      have i1 : (j : Int) < (l.length : Int) := by omega
      go_wp2
      go_quiet (fail)
      go_wp2
      go_roundw
      case rel => exact ⟨j + 1, n + nq, by omega, by go_num, rfl⟩
      case measure => simp [intOf]; omega
    · go_wp2
      go_ret
      exact ⟨rfl, HW.out.trans ((below_drewN' _ _).mono HW.out.size)⟩
end Go.Proofs.Ytpecfjejfkcolaa

/- copy of Moves into a row that was just made; the row with its room. -/
namespace Go.Proofs.Ytpecfjejfkcolaa
open Go.RowKit Go.Shelf
set_option linter.unusedVariables false

theorem make_movesL (n : Nat) (hn : n ≤ 3000000) (w : World) : (Instr.makeSlice 37 (.int .i64 (n : Int)) (.int .i64 (n : Int))).run Try.prog w = .ok (.slice (some ⟨w.heap.size, 0, none⟩) n n) (w.alloc (.cells (flatV (List.replicate n noMv)).toArray 43)) := by
  obtain ⟨i0, hi, hz0, hz1, hz2⟩ := info_parts Try.infoMv
  have h := run_make (P := Try.prog) w 37 43 i0 (.agg zeroMv) Try.underlying37 hi hz0 .i64 .i64 (n : Int) (n : Int) (by omega) (by omega) (by rw [hz2]; omega) (by omega)
  rw [h, hz1, Int.toNat_natCast]
  have e : (Value.agg zeroMv).cells = zeroMv := rfl
  rw [e, made_moves]
theorem flat_one : ∀ (l : List Mv), ∀ u ∈ flatV l, u.oneCell' = true
  | [], u, hu => by simp [flatV] at hu
  | x :: l, u, hu => by
    rw [flatV, List.mem_append] at hu
    rcases hu with hu | hu
    · simp [mvL] at hu
      rcases hu with rfl | rfl | rfl | rfl <;> rfl
    · exact flat_one l u hu
theorem flat_drop (n : Nat) (l : List Mv) : (flatV l).drop (n * 4) = flatV (l.drop n) := by
  by_cases h : n ≤ l.length
  · have hl : (flatV (l.take n)).length = n * 4 := by rw [flatV_length, List.length_take, Nat.min_eq_left h]
    have e2 : flatV l = flatV (l.take n) ++ flatV (l.drop n) := by rw [← flatV_append, List.take_append_drop]
    rw [e2, List.drop_append_of_le_length (by omega), ← hl, List.drop_length, List.nil_append]
  · rw [List.drop_eq_nil_of_le (by rw [flatV_length]; omega), List.drop_eq_nil_of_le (by omega)]
    rfl
/-- copy: as many Moves as the source has go over -/
theorem run_copy_M (w : World) (ty : TypeId) (g n m : Nat) (ao : Option Addr) (sCap : Nat) (l : List Mv) (hl : l.length = n) (hg : w.heap[g]? = some (.cells (flatV (List.replicate (n + m) noMv)).toArray 43 (0, 0)))
    (hnone : ao = none → n = 0) (hsrc : ∀ a, ao = some a → ∀ j u, (flatV l)[j]? = some u → w.cell? (a.add j) = some u) :
    (Builtin.copy_ #[37, 37] ty #[.slice (some ⟨g, 0, none⟩) (n + m) (n + m), .slice ao n sCap]).run Try.prog w = .ok (goInt n) (w.setRow g (flatV (l ++ List.replicate m noMv)).toArray) := by
  obtain ⟨i0, hi, hz0, hz1, hz2⟩ := info_parts Try.infoMv
  have hlen : (flatV l).length = n * 4 := by rw [flatV_length, hl]
  have hst := run_storeCells_at Try.prog g 0 43 (flatV l) 0 _ w hg (by simp [flatV_length, hl]; omega) (flat_one l)
  have hrow : ((flatV (List.replicate (n + m) noMv)).toArray.toList.take (0 + 0) ++ flatV l ++ (flatV (List.replicate (n + m) noMv)).toArray.toList.drop (0 + 0 + (flatV l).length)) = flatV (l ++ List.replicate m noMv) := by
    rw [hlen]
    simp only [Nat.zero_add, List.take_zero, List.nil_append]
    rw [flat_drop, List.drop_replicate, flatV_append, show n + m - n = m by omega]
  rw [hrow] at hst
  have hmin : min n (n + m) = n := by omega
  cases ao with
  | none =>
    obtain rfl := hnone rfl
    obtain rfl : l = [] := List.length_eq_zero_iff.1 hl
    rw [List.nil_append] at hst ⊢
    have hself := setRow_self w g _ 43 (0, 0) hg
    rw [Nat.zero_add] at hself
    rw [hself]
    simp [Builtin.copy_, run_underlying Try.underlying37, Builtin.lenOf, Builtin.firstCells, sizeOf, typeInfo, hi, storeCells]
  | some a =>
    have hld := run_loadCells_list (P := Try.prog) w a (flatV l) (hsrc a rfl)
    rw [hlen] at hld
    simp [Builtin.copy_, run_underlying Try.underlying37, Builtin.lenOf, Builtin.firstCells, sizeOf, typeInfo, hi, hz1, hmin, hld, hst]
theorem wpList_copy_M {w : World} {ops : Array Oper} {rest : List Oper} {o : Oper} {a : Act} {Q : Exit → Act → World → Prop} (hgd : o.guard = none) (d s : Operand)
    (ho : o.op = .call { callee := .builtin .copy, args := #[d, s], argTypes := #[37, 37] })
    (g n m : Nat) (ao : Option Addr) (sCap : Nat) (l : List Mv) (hd : a.eval d = .slice (some ⟨g, 0, none⟩) (n + m) (n + m)) (hs : a.eval s = .slice ao n sCap) (hl : l.length = n) (hg : w.heap[g]? = some (.cells (flatV (List.replicate (n + m) noMv)).toArray 43 (0, 0)))
    (hnone : ao = none → n = 0) (hsrc : ∀ a, ao = some a → ∀ j u, (flatV l)[j]? = some u → w.cell? (a.add j) = some u)
    (h : ∀ w', Hid (w'.heap[g]? = some (.cells (flatV (l ++ List.replicate m noMv)).toArray 43 (0, 0))) → w.grownBy w' (some g) → wpList Try.prog ops Q rest (a.put o.dst (goInt n)) w') : wpList Try.prog ops Q (o :: rest) a w := by
  refine wpList_plain hgd fun K hK => ?_
  have hrun := run_copy_M w o.type g n m ao sCap l hl hg hnone hsrc
  unfold Oper.wp
  simp [execOp, ho, resolve, invoke, builtin, hd, hs, hrun, Result.andThen]
  refine hK _ _ (h _ (setRow_heap w g _ _ _ _ hg) ⟨rfl, rfl, rfl, by simp [World.setRow], fun k hk hne => setRow_other w g k _ (fun e => hne (by rw [e]))⟩)
/-- a source's cells, from MovesAt -/
theorem moves_src {w : World} {b off : Nat} {l : List Mv} (h : ∀ i (h : i < l.length), w.cell? ⟨b, off + i * 4, none⟩ = some (.int .i64 l[i].node) ∧ w.cell? ⟨b, off + i * 4 + 1, none⟩ = some (.int .i64 l[i].prep) ∧ w.cell? ⟨b, off + i * 4 + 2, none⟩ = some (.string l[i].chain) ∧ w.cell? ⟨b, off + i * 4 + 3, none⟩ = some (.int .i64 l[i].by')) :
    ∀ j u, (flatV l)[j]? = some u → w.cell? ((⟨b, off, none⟩ : Addr).add j) = some u := by
  intro j u hu
  have hj : j < l.length * 4 := by
    have := (List.getElem?_eq_some_iff.1 hu).1
    rwa [flatV_length] at this
  have hi : j / 4 < l.length := by omega
  have q := flatV_get (l.take (j / 4)) (l.drop (j / 4 + 1)) l[j / 4] (j / 4) (by rw [List.length_take]; omega)
  rw [← List.drop_eq_getElem_cons hi, List.take_append_drop] at q
  have hc := h (j / 4) hi
  have e : (⟨b, off, none⟩ : Addr).add j = ⟨b, off + j, none⟩ := by unfold Addr.add; split <;> simp_all
  rw [e]
  have h4 : j % 4 = 0 ∨ j % 4 = 1 ∨ j % 4 = 2 ∨ j % 4 = 3 := by omega
  rcases h4 with h4 | h4 | h4 | h4
  · rw [show off + j = off + j / 4 * 4 by omega, hc.1, ← hu, ← q.1]; exact congrArg (fun z => (flatV l)[z]?) (by omega)
  · rw [show off + j = off + j / 4 * 4 + 1 by omega, hc.2.1, ← hu, ← q.2.1]; exact congrArg (fun z => (flatV l)[z]?) (by omega)
  · rw [show off + j = off + j / 4 * 4 + 2 by omega, hc.2.2.1, ← hu, ← q.2.2.1]; exact congrArg (fun z => (flatV l)[z]?) (by omega)
  · rw [show off + j = off + j / 4 * 4 + 3 by omega, hc.2.2.2, ← hu, ← q.2.2.2]; exact congrArg (fun z => (flatV l)[z]?) (by omega)
end Go.Proofs.Ytpecfjejfkcolaa
