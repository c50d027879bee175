import Derived.Test.YtpecfjejfkcolaaPart17
import Derived.Shelf.Strconv.Clone
/- wire.Encode: Propose; the whole; moot.Encode. -/
namespace Go.Proofs.Ytpecfjejfkcolaa
open Go.RowKit Go.Shelf
open Go.Lib (strCells strCells_length wpList_append_own_string)
set_option linter.unusedVariables false

set_option maxRecDepth 100000 in
set_option maxHeartbeats 4000000 in
theorem wEnc1 (m : Mg) (v : Value) (w : World) (hv : MovesAt w v m.moves) (hm : mayB m = true) (hk : m.kind = 1) :
    Calls Try.prog 29 #[mgV m v] w fun e w' => e = .returned (.tuple #[.string (encB m), .int .i64 0]) ∧ Below w.heap.size w w' := by
  obtain ⟨i0, hi, hz0, hz1, hz2⟩ := info_parts Try.info5
  have HE := hide (enc1_eq hk)
  obtain ⟨f1, f2, f3, f4, f5, f6, f7, f8, f9⟩ := may_facts hm
  have hv1 := hide hv.slice
  have HV := hide hv
  have HM := hide hm
  have F9 := hide f9
  obtain ⟨ao, cap, hvs, hcell⟩ := hv.1
  have HC := hide hcell
  clear hv hm f9 hcell
  obtain ⟨k, f, h, r, c, p, b, l⟩ := m
  dsimp only at f1 f2 f3 f4 f5 f6 f7 f8 HV hk F9 HC hvs hv1
  have hc : c.size ≤ maxLen := by unfold maxLen; omega
  subst hvs hk
  have hB0 : Below w.heap.size w (w.alloc (.cells #[.int .i64 1, .int .i64 f, .int .i64 h, .int .i64 r, .string c, .int .i64 p, .int .i64 b, .slice ao l.length cap] 39)) := (Below.refl _ w).alloc (Nat.le_refl _) _
  have HX := hide (World.alloc_heap_new w (.cells #[.int .i64 1, .int .i64 f, .int .i64 h, .int .i64 r, .string c, .int .i64 p, .int .i64 b, .slice ao l.length cap] 39 (0, 0)))
  have oL : strCells (oneB (l.length : Int)) = [.int .u8 (l.length : Int)] := strCells_one (by omega) (by omega)
  go_enter Try.func29, Try.ntmps29
  go_wp2_with (first
    | (go_at_call 47; refine (mayBe_is true ⟨1, f, h, r, c, p, b, l⟩ _ _ (HV.out.below ((Below.refl _ w).alloc (Nat.le_refl _) _)) hc HM.out).mono ?_; rintro e w1 ⟨rfl, hb1⟩; obtain ⟨z0, z1, z2, z3, z4, z5, z6, z7⟩ := box8 hb1; have hs1 : w.heap.size + 1 ≤ w1.heap.size := (by have := hb1.size; rw [World.size_alloc] at this; exact this); have hx1 := (hb1.block w.heap.size (by simp)).trans HX.out; have T1 := hide (text_head (w := w1) (base := w.heap.size + 1) ⟨1, f, h, r, c, p, b, l⟩ hs1 f1 f2 f3 f4); have bl1 : Below (w.heap.size + 1) (w.alloc (.cells #[.int .i64 1, .int .i64 f, .int .i64 h, .int .i64 r, .string c, .int .i64 p, .int .i64 b, .slice ao l.length cap] 39)) (w1.alloc (.cells #[.int .u8 1, .int .u8 f, .int .u8 h, .int .u8 r] 5)) := (hb1.mono (by simp)).alloc hs1 _; have hx2 := box_alloc (o' := .cells #[.int .u8 1, .int .u8 f, .int .u8 h, .int .u8 r] 5) hx1; have q0 := box_read (i := 0) hx2 rfl; have q1 := box_read (i := 1) hx2 rfl; have q2 := box_read (i := 2) hx2 rfl; have q3 := box_read (i := 3) hx2 rfl; have q4 := box_read (i := 4) hx2 rfl; have q5 := box_read (i := 5) hx2 rfl; have q6 := box_read (i := 6) hx2 rfl; have q7 := box_read (i := 7) hx2 rfl)
    | (at_builtin; refine wpList_append_own_string _ rfl (.tmp 27) (.tmp 29) 80 9 rfl (w.heap.size + 1) 5 i0 Try.underlying80 Try.underlying9 hi hz0 hz1 hz2 _ _ _ rfl T1.out c rfl (by unfold maxLen; rw [headB_size]; omega) (by rw [headB_size]; omega) (by simp; omega) ?_; intro v2 w2 hown2 hgrow2 _; have hx3 := box_kept hx2 T1.out (by decide) hgrow2; have y3 := box_read (i := 6) hx3 rfl; have y7 := box_read (i := 7) hx3 rfl; have bl2 := bl1.trans (app_str T1.out (by simp; omega) hgrow2); have T2 := hide (text_app hown2))
    | (at_builtin; refine wpList_append_own _ rfl (.tmp 31) (.tmp 36) 80 rfl (w.heap.size + 1) 5 i0 (.int .u8 0) 1 1 Try.underlying80 hi hz0 hz1 hz2 rfl (by decide) v2 _ _ rfl (World.ownsRow.alloc T2.out _) ⟨_, 0, none⟩ 1 1 [.int .u8 (l.length : Int)] rfl rfl (cell_one_at _ _ _ _ (by simp)) (by simp [Value.oneCell']) (by unfold maxLen; rw [ByteArray.size_append, headB_size]; omega) (by rw [ByteArray.size_append, headB_size]; omega) (by have := bl2.size; simp at this ⊢; omega) ?_; intro v3 w3 hown3 hgrow3 _; have bl3 := bl2.trans (app_one T2.out (by have := bl2.size; simp at this ⊢; omega) hgrow3); have hx4 := box_kept (box_alloc hx3) (World.ownsRow.alloc T2.out _) (by decide) hgrow3; have r7 := box_read (i := 7) hx4 rfl; have T3 := hide (text_push hown3 (by omega) (by omega))))
  have bk3 : Below (w.heap.size + 1) (w.alloc (.cells #[.int .i64 1, .int .i64 f, .int .i64 h, .int .i64 r, .string c, .int .i64 p, .int .i64 b, .slice ao l.length cap] 39)) w3 := bl3
  have hBw3 : Below w.heap.size w w3 := hB0.trans (bk3.mono (Nat.le_succ _))
  have hs3 : w.heap.size + 1 ≤ w3.heap.size := box_size bk3
  clear z0 z1 z2 z3 z4 z5 z6 z7 q0 q1 q2 q3 q4 q5 q6 q7 y3 y7 r7 hx1 hx2 hx3 hx4 hb1 hgrow2 hgrow3 hown2 hown3 bl1 bl2 bl3 T1 T2 HX hB0 bk3 oL HV HM
  go_loopw [4, 41] (fun st i wr => ∃ (j : Nat) (s : ByteArray), j ≤ l.length ∧ i = .int .i64 (j : Int) ∧ Text wr (w.heap.size + 1) st s ∧ Hid (movesB s (l.drop j) = encB ⟨1, f, h, r, c, p, b, l⟩) ∧ s.size ≤ 100 + 40 * j ∧ 0 < s.size ∧ w.heap.size + 1 ≤ wr.heap.size ∧ Below w.heap.size w wr) (fun _ i _ => l.length - (intOf i).toNat)
  case atStart => exact ⟨0, _, by omega, rfl, T3.out, by rw [HE.out]; rfl, by simp only [ByteArray.size_append, headB_size, oneB_size]; omega, by simp only [ByteArray.size_append, headB_size, oneB_size]; omega, hs3, hBw3⟩
  case round =>
    obtain ⟨j, s, hj, rfl, ht, henc, hss, hs0, hsw, hBw⟩ := hrel
    by_cases hlt : j < l.length
    · obtain ⟨b0, off, rfl, hlt0, hcell⟩ := HC.out (by omega)
      obtain ⟨c0, c1, c2, c3⟩ := hcell j hlt
      clear hcell
      rw [← hBw.cell (p := ⟨b0, off + j * 4, none⟩) hlt0] at c0
      rw [← hBw.cell (p := ⟨b0, off + j * 4 + 1, none⟩) hlt0] at c1
      rw [← hBw.cell (p := ⟨b0, off + j * 4 + 2, none⟩) hlt0] at c2
      rw [← hBw.cell (p := ⟨b0, off + j * 4 + 3, none⟩) hlt0] at c3
      obtain ⟨g1, g2, g3, g4⟩ := F9.out _ (List.getElem_mem hlt)
      have hst : Hid (movesB s (l.drop j) = movesB (s ++ oneB l[j].node ++ mvB l[j].prep l[j].chain l[j].by') (l.drop (j + 1))) := by
        show _ = _
        rw [List.drop_eq_getElem_cons hlt]; rfl
      obtain ⟨x, hx⟩ : ∃ x, l[j] = x := ⟨_, rfl⟩
      rw [hx] at c0 c1 c2 c3 g1 g2 g3 g4 hst
      clear hx
      obtain ⟨n, q, d, y⟩ := x
      dsimp only at c0 c1 c2 c3 g1 g2 g3 g4 hst
      have i0' : (0 : Int) ≤ (j : Int) := by omega
      have i1 : (j : Int) < (l.length : Int) := by omega
      have om := mvB_size (p := q) (b := y) g4
      have HT := hide ht
      clear ht
      have HX := hide (World.alloc_heap_new wr (.cells #[.int .i64 n, .int .i64 q, .string d, .int .i64 y] 43 (0, 0)))
      go_wp2_with (first
        | (at_builtin; refine wpList_append_own _ rfl (.tmp 45) (.tmp 49) 80 rfl (w.heap.size + 1) 5 i0 (.int .u8 0) 1 1 Try.underlying80 hi hz0 hz1 hz2 rfl (by decide) _ _ _ rfl (World.ownsRow.alloc (World.ownsRow.alloc HT.out _) _) ⟨_, 0, none⟩ 1 1 [.int .u8 n] rfl rfl (cell_one_at _ _ _ _ (by simp)) (by simp [Value.oneCell']) (by unfold maxLen; omega) (by omega) (by simp; omega) ?_; intro v5 w5 hown5 hgrow5 _; have hx5 := box_kept (box_alloc HX.out) (World.ownsRow.alloc (World.ownsRow.alloc HT.out _) _) (by decide) hgrow5; have q0 := box_read (i := 0) hx5 rfl; have q1 := box_read (i := 1) hx5 rfl; have q2 := box_read (i := 2) hx5 rfl; have q3 := box_read (i := 3) hx5 rfl; have bl5 := box_grown HT.out hsw hgrow5; have s5 := bl5.size; have T5 := hide (text_push hown5 (by omega) (by omega)))
        | (go_at_call 48; refine (appendMove_any (w.heap.size + 1) _ _ ⟨n, q, d, y⟩ _ T5.out (by omega) (by rw [ByteArray.size_append, oneB_size]; omega) g2 g3 g4).mono ?_; rintro e w6 ⟨v6, rfl, t6, hb6⟩; have T6 := hide t6; clear t6; have bl6 := bl5.trans hb6; have s6 := bl6.size))
      go_roundw
      case rel => exact ⟨j + 1, _, by omega, by go_num, T6.out, by rw [← hst.out, henc.out]; rfl, by simp only [ByteArray.size_append, oneB_size]; omega, by simp only [ByteArray.size_append, oneB_size]; omega, by omega, hBw.trans (bl6.mono (Nat.le_succ _))⟩
      case measure => simp [intOf]; omega
    · have cv := run_string_of ht hs0
      go_wp2
      go_ret2
      refine ⟨?_, hBw⟩
      rw [← henc.out, List.drop_eq_nil_of_le (by omega)]
      rfl

theorem wEnc_ok (m : Mg) (v : Value) (w : World) (hv : MovesAt w v m.moves) (hm : mayB m = true) :
    Calls Try.prog 29 #[mgV m v] w fun e w' => e = .returned (.tuple #[.string (encB m), .int .i64 0]) ∧ Below w.heap.size w w' := by
  have hk := (may_facts hm).kind
  by_cases h1 : m.kind = 1
  · exact wEnc1 m v w hv hm h1
  by_cases h2 : m.kind = 2
  · exact wEnc2 m v w hv hm h2
  by_cases h3 : m.kind = 3
  · exact wEnc3 m v w hv hm h3
  by_cases h4 : m.kind = 4
  · exact wEnc4 m v w hv hm h4
  by_cases h5 : m.kind = 5
  · exact wEnc5 m v w hv hm h5
  exact wEnc6 m v w hv hm (by omega)

/-- what Encode answers -/
def encRes (m : Mg) : Value := if mayB m = true then .tuple #[.string (encB m), .int .i64 0] else .tuple #[.string ByteArray.empty, .int .i64 2]
theorem wEnc_any (m : Mg) (v : Value) (w : World) (hv : MovesAt w v m.moves) (hc : m.chain.size ≤ maxLen) :
    Calls Try.prog 29 #[mgV m v] w fun e w' => e = .returned (encRes m) ∧ Below w.heap.size w w' := by
  unfold encRes
  cases hm : mayB m with
  | true => exact wEnc_ok m v w hv hm
  | false => exact wEnc_no m v w hv hc hm
theorem refEnc_any (m : Mg) (v : Value) (w : World) (hv : MovesAt w v m.moves) (hc : m.chain.size ≤ maxLen) :
    Calls Try.prog 16 #[mgV m v] w fun e w' => e = .returned (encRes m) ∧ Below w.heap.size w w' := by
  unfold encRes
  cases hm : mayB m with
  | true => exact refEnc_ok m v w hv hm
  | false => exact refEnc_no m v w hv hc hm
/-- what Encode answers, in two letters -/
theorem encRes_two (m : Mg) : ∃ s e, encRes m = .tuple #[.string s, .int .i64 e] := by
  unfold encRes
  split
  · exact ⟨_, _, rfl⟩
  · exact ⟨_, _, rfl⟩
set_option maxRecDepth 100000 in
set_option maxHeartbeats 1000000 in
theorem encode_is (s : ByteArray) (t : Int) (m : Mg) (v : Value) (w : World) (hv : MovesAt w v m.moves) (hc : m.chain.size ≤ maxLen) (hs : encRes m = .tuple #[.string s, .int .i64 t]) :
    Calls Try.prog 15 #[mgV m v] w fun e w' => e = .returned (.tuple #[.string s, .int .i64 t]) ∧ Below w.heap.size w w' := by
  have hcall := fun (w : World) hv => wEnc_any m v w hv hc
  rw [hs] at hcall
  have HCALL := hide hcall
  have HV := hide hv
  obtain ⟨ao, n, cap, hvs⟩ := hv.slice
  clear hv hcall hs
  obtain ⟨k, f, h, r, c, p, b, l⟩ := m
  dsimp only at HV
  subst hvs
  go_enter Try.func15, Try.ntmps15
  go_wp2_with (go_at_call 29; refine (HCALL.out _ (HV.out.below ((Below.refl _ w).alloc (Nat.le_refl _) _))).mono ?_; rintro e w1 ⟨rfl, hb1⟩)
  go_ret2
  exact ⟨rfl, ((Below.refl _ w).alloc (Nat.le_refl _) _).trans (hb1.mono (by simp))⟩
end Go.Proofs.Ytpecfjejfkcolaa

/- wire's reader: number, text. -/
namespace Go.Proofs.Ytpecfjejfkcolaa
open Go.RowKit Go.Shelf
set_option linter.unusedVariables false

/-- one byte from the front; so many -/
def numB (s : ByteArray) (sh : Bool) : Int × ByteArray × Bool := if h : 0 < s.size then ((s[0].toNat : Int), s.extract 1 s.size, sh) else (0, s, true)
def textB (n : Nat) (s : ByteArray) (sh : Bool) : ByteArray × ByteArray × Bool := if s.size < n then (ByteArray.empty, ByteArray.empty, true) else (s.extract 0 n, s.extract n s.size, sh)
/-- the reader, in block R -/
def RdAt (w : World) (R : Nat) (s : ByteArray) (sh : Bool) : Prop := w.heap[R]? = some (.cells #[.string s, .bool sh] 102 (0, 0)) ∧ s.size ≤ maxLen
theorem RdAt.cells {w : World} {R : Nat} {s : ByteArray} {sh : Bool} (h : RdAt w R s sh) : w.cell? ⟨R, 0, none⟩ = some (.string s) ∧ w.cell? ⟨R, 1, none⟩ = some (.bool sh) := ⟨box_read h.1 rfl, box_read h.1 rfl⟩
theorem RdAt.free {w : World} {R j : Nat} {s : ByteArray} {sh : Bool} (h : RdAt w R s sh) : w.frozen? ⟨R, j, none⟩ = false := by simp [World.frozen?, h.1]
theorem heap_set2_0 {w : World} {b : Nat} {x y u : Value} {t : TypeId} (h : w.heap[b]? = some (.cells #[x, y] t (0, 0))) : (w.setCell ⟨b, 0, none⟩ u).heap[b]? = some (.cells #[u, y] t (0, 0)) := by
  obtain ⟨hlt, hk⟩ := Array.getElem?_eq_some_iff.1 h
  show (w.heap.modify b _)[b]? = _
  rw [Array.getElem?_eq_getElem (by rw [Array.size_modify]; exact hlt), Array.getElem_modify_self, hk]
  rfl
theorem heap_set2_1 {w : World} {b : Nat} {x y u : Value} {t : TypeId} (h : w.heap[b]? = some (.cells #[x, y] t (0, 0))) : (w.setCell ⟨b, 1, none⟩ u).heap[b]? = some (.cells #[x, u] t (0, 0)) := by
  obtain ⟨hlt, hk⟩ := Array.getElem?_eq_some_iff.1 h
  show (w.heap.modify b _)[b]? = _
  rw [Array.getElem?_eq_getElem (by rw [Array.size_modify]; exact hlt), Array.getElem_modify_self, hk]
  rfl

set_option maxRecDepth 100000 in
set_option maxHeartbeats 1000000 in
theorem number_any (R : Nat) (s : ByteArray) (sh : Bool) (w : World) (hr : RdAt w R s sh) :
    Calls Try.prog 64 #[.pointer (some ⟨R, 0, none⟩)] w fun e w' => e = .returned (.int .i64 (numB s sh).1) ∧ RdAt w' R (numB s sh).2.1 (numB s sh).2.2 ∧ w.grownBy w' (some R) := by
  obtain ⟨c0, c1⟩ := hr.cells
  have f0 := hr.free (j := 0)
  have f1 := hr.free (j := 1)
  have HR := hide hr
  have hsz := hr.2
  unfold maxLen at hsz
  clear hr
  by_cases h0 : 0 < s.size
  · have HN : Hid (numB s sh = ((s[0].toNat : Int), s.extract 1 s.size, sh)) := dif_pos h0
    have hne : ¬ s.toList = [] := fun e => by have := bytes_nil.1 e; omega
    have hneB : (s.toList == []) = false := by simpa using hne
    have i0 : (0 : Int) < (s.size : Int) := by omega
    have i1 : (1 : Int) ≤ (s.size : Int) := by omega
    have i2 : 1 ≤ s.size := h0
    go_enter Try.func64, Try.ntmps64
    go_wp2
    go_ret
    rw [HN.out]
    have hb := s[0].toNat_lt
    refine ⟨ret_int (by unfold wrap64; omega), ⟨heap_set2_0 HR.out.1, ?_⟩, grownBy_setCellAt _ _ _ _⟩
    show (s.extract 1 s.size).size ≤ maxLen
    rw [ByteArray.size_extract]
    unfold maxLen
    omega
  · have HN : Hid (numB s sh = (0, s, true)) := dif_neg h0
    have hne : s.toList = [] := bytes_nil.2 (by omega)
    have hneB : (s.toList == []) = true := by rw [hne]; rfl
    have HNE := hide hne
    clear hne
    go_enter Try.func64, Try.ntmps64
    go_wp2
    go_ret
    rw [HN.out]
    exact ⟨rfl, ⟨heap_set2_1 HR.out.1, HR.out.2⟩, grownBy_setCellAt _ _ _ _⟩
end Go.Proofs.Ytpecfjejfkcolaa

/- strings.Clone, off the shelf. -/
namespace Go.Proofs
open Go.Shelf in
def Try.laysM316_ren : Go.Shelf.Ren := ⟨fun | 316 => 74 | n => n, fun | 9 => 9 | 3 => 3 | 4 => 4 | 37 => 80 | 0 => 0 | 127 => 117 | 5 => 5 | n => n, fun | n => n⟩
open Go.Shelf in
theorem Try.laysM316 : Go.Proofs.LaysM.n316 Try.prog Try.laysM316_ren := {
  mixed := by kernel_rfl
  f316 := Try.func74.trans (congrArg some (by kernel_rfl))
  t0 := Try.underlying0
  a0 := Try.isAgg0
  z0 := Try.sizeOf0
  v0 := Try.zeroValue0
  t3 := Try.underlying3
  a3 := Try.isAgg3
  z3 := Try.sizeOf3
  v3 := Try.zeroValue3
  t4 := Try.underlying4
  a4 := Try.isAgg4
  z4 := Try.sizeOf4
  v4 := Try.zeroValue4
  t9 := Try.underlying9
  a9 := Try.isAgg9
  z9 := Try.sizeOf9
  v9 := Try.zeroValue9
  t37 := Try.underlying80
  a37 := Try.isAgg80
  z37 := Try.sizeOf80
  v37 := Try.zeroValue80
  t127 := Try.underlying117
  a127 := Try.isAgg117
  z127 := Try.sizeOf117
  v127 := Try.zeroValue117
  t5 := Try.underlying5
  a5 := Try.isAgg5
  z5 := Try.sizeOf5
  v5 := Try.zeroValue5
  i0 := by kernel_rfl
  i3 := by kernel_rfl
  i4 := by kernel_rfl
  i5 := by kernel_rfl
  i9 := by kernel_rfl
  i37 := by kernel_rfl
  i127 := by kernel_rfl }
open Go.RowKit in
theorem Try.stringslite_Clone (s : ByteArray) (w : World) (hlim : s.size ≤ 281474976710656) :
    Calls Try.prog 74 #[.string s] w fun e w' => e = .returned (.string s) ∧ Below w.heap.size w w' := Any.stringslite_Clone Try.laysM316 s w hlim
end Go.Proofs
namespace Go.Proofs.Ytpecfjejfkcolaa
open Go.RowKit Go.Shelf
set_option linter.unusedVariables false
set_option maxHeartbeats 1000000 in
theorem clone_any (s : ByteArray) (w : World) (hs : s.size ≤ 281474976710656) :
    Calls Try.prog 73 #[.string s] w fun e w' => e = .returned (.string s) ∧ Below w.heap.size w w' := by
  go_enter Try.func73, Try.ntmps73
  go_wp2_with (go_at_call 74; refine (Try.stringslite_Clone s _ hs).mono ?_; rintro e w1 ⟨rfl, hb1⟩)
  go_ret
  exact ⟨rfl, hb1⟩
end Go.Proofs.Ytpecfjejfkcolaa
