import Derived.Test.YtlkhmldceekdaaaPart2
/- mootref.Encode: Propose; the whole. -/
namespace Go.Proofs.Ytlkhmldceekdaaa
open Go.RowKit
set_option linter.unusedVariables false
theorem box4 {w wr : World} {a0 a1 a2 a3 : Value} {t : TypeId} (h : Below (w.alloc (.cells #[a0, a1, a2, a3] t)).heap.size (w.alloc (.cells #[a0, a1, a2, a3] t)) wr) :
    wr.cell? ⟨w.heap.size, 0, none⟩ = some a0 ∧ wr.cell? ⟨w.heap.size, 1, none⟩ = some a1 ∧ wr.cell? ⟨w.heap.size, 2, none⟩ = some a2 ∧ wr.cell? ⟨w.heap.size, 3, none⟩ = some a3 := by
  have h' : Below (w.heap.size + 1) _ wr := h.mono (by rw [World.size_alloc]; exact Nat.le_refl _)
  exact ⟨box_cell h' rfl, box_cell h' rfl, box_cell h' rfl, box_cell h' rfl⟩
theorem mvB_size {p b : Int} {c : ByteArray} (h : c.size ≤ 21) : (mvB p c b).size ≤ 30 := by
  unfold mvB; split <;> simp [ByteArray.size_append, oneB_size] <;> omega

set_option maxRecDepth 100000 in
set_option maxHeartbeats 4000000 in
theorem refEnc1 (m : Mg) (v : Value) (w : World) (hv : MovesAt w v m.moves) (hm : mayB m = true) (hk : m.kind = 1) :
    Calls Try.prog 16 #[mgV m v] w fun e w' => e = .returned (.tuple #[.string (encB m), .int .i64 0]) ∧ Below w.heap.size w w' := by
  have HE := hide (enc1_eq hk)
  obtain ⟨f1, f2, f3, f4, f5, f6, f7, f8, f9⟩ := may_facts hm
  have HV := hide hv
  have HM := hide hm
  have F9 := hide f9
  obtain ⟨ao, cap, hvs, hcell⟩ := hv.1
  have HC := hide hcell
  clear hv hm f9 hcell
  obtain ⟨k, f, h, r, c, p, b, l⟩ := m
  dsimp only at f1 f2 f3 f4 f5 f6 f7 f8 HV hk F9 HC hvs
  have hc : c.size ≤ maxLen := by unfold maxLen; omega
  subst hvs hk
  obtain ⟨wb, hwb⟩ : ∃ wb, wb = w.alloc (.cells #[.int .i64 1, .int .i64 f, .int .i64 h, .int .i64 r, .string c, .int .i64 p, .int .i64 b, .slice ao l.length cap] 39) := ⟨_, rfl⟩
  have hB0 : Below w.heap.size w wb := by rw [hwb]; exact (Below.refl _ w).alloc (Nat.le_refl _) _
  have hsz : w.heap.size < wb.heap.size := by rw [hwb]; simp
  have H8 := hide (fun wr (h : Below wb.heap.size wb wr) => box8 (w := w) (wr := wr) (by rw [← hwb]; exact h))
  go_enter Try.func16, Try.ntmps16
  go_wp2_with (go_at_call 30; refine (may_is true ⟨1, f, h, r, c, p, b, l⟩ _ _ (HV.out.below ((Below.refl _ w).alloc (Nat.le_refl _) _)) hc HM.out).mono ?_; rintro e w1 ⟨rfl, hb1⟩)
  rw [← hwb] at hb1
  clear hwb
  obtain ⟨z0, z1, z2, z3, z4, z5, z6, z7⟩ := H8.out w1 hb1
  have o6 : (oneB 1).size = 1 := rfl
  have of : (oneB f).size = 1 := rfl
  have oh : (oneB h).size = 1 := rfl
  have or : (oneB r).size = 1 := rfl
  have ob : (oneB b).size = 1 := rfl
  have hB1 := hb1.drew
  go_region_held3 (fun w' => w'.cell? ⟨w.heap.size, 0, none⟩ = some (.int .i64 1) ∧ w'.cell? ⟨w.heap.size, 1, none⟩ = some (.int .i64 f) ∧ w'.cell? ⟨w.heap.size, 2, none⟩ = some (.int .i64 h) ∧ w'.cell? ⟨w.heap.size, 3, none⟩ = some (.int .i64 r)) (go_keep)
    ((go_at_call 31; refine (one_any _ _ (by omega) (by omega)).mono ?_; rintro e w2 ⟨rfl, hb2⟩; have hB1 := hB1.trans (hb2.mono hB1.size); obtain ⟨z0, z1, z2, z3, z4, z5, z6, z7⟩ := H8.out _ hB1))
  obtain ⟨hd, hhd⟩ : ∃ s, s = oneB 1 ++ oneB f ++ oneB h ++ oneB r := ⟨_, rfl⟩
  have hd4 : hd.size = 4 := by rw [hhd]; rfl
  have ol : (oneB (l.length : Int)).size = 1 := rfl
  have a1 := strAdd (a := hd) (b := c) (by omega)
  have a2 := strAdd (a := hd ++ c) (b := oneB (l.length : Int)) (by rw [ByteArray.size_append, ol]; omega)
  rw [← hhd]
  have HD := hide hhd
  clear hhd
  go_wp2
  have hB1 := hB1.drew
  go_region_held3 (fun w' => w'.cell? ⟨w.heap.size, 4, none⟩ = some (.string c) ∧ w'.cell? ⟨w.heap.size, 7, none⟩ = some (.slice ao l.length cap)) (go_keep)
    ((go_at_call 31; refine (one_any _ _ (by omega) (by omega)).mono ?_; rintro e w3 ⟨rfl, hb3⟩; have hB1 := hB1.trans (hb3.mono hB1.size); obtain ⟨z0, z1, z2, z3, z4, z5, z6, z7⟩ := H8.out _ hB1))
  go_wp2
  go_loopw [5, 6] (fun st i wr => ∃ (j : Nat) (s : ByteArray), j ≤ l.length ∧ i = .int .i64 (j : Int) ∧ st = .string s ∧ Hid (movesB s (l.drop j) = encB ⟨1, f, h, r, c, p, b, l⟩) ∧ s.size ≤ 100 + 40 * j ∧ Below wb.heap.size wb wr) (fun _ i _ => l.length - (intOf i).toNat)
  case atStart => exact ⟨0, _, by omega, rfl, rfl, by rw [HE.out, HD.out]; rfl, by simp only [ByteArray.size_append, hd4, ol]; omega, hB1⟩
  case round =>
    obtain ⟨j, s, hj, rfl, rfl, henc, hss, hB⟩ := hrel
    obtain ⟨y0, y1, y2, y3, y4, y5, y6, y7⟩ := H8.out wr hB
    have hBw : Below w.heap.size w wr := hB0.trans (hB.mono hB0.size)
    by_cases hlt : j < l.length
    · obtain ⟨b0, off, rfl, hlt0, hcell⟩ := HC.out (by omega)
      obtain ⟨c0, c1, c2, c3⟩ := hcell j hlt
      clear hcell
      rw [← hBw.cell (p := ⟨b0, off + j * 4, none⟩) hlt0] at c0
      rw [← hBw.cell (p := ⟨b0, off + j * 4 + 1, none⟩) hlt0] at c1
      rw [← hBw.cell (p := ⟨b0, off + j * 4 + 2, none⟩) hlt0] at c2
      rw [← hBw.cell (p := ⟨b0, off + j * 4 + 3, none⟩) hlt0] at c3
      obtain ⟨g1, g2, g3, g4⟩ := F9.out _ (List.getElem_mem hlt)
      have hst : Hid (movesB s (l.drop j) = movesB (s ++ oneB l[j].node ++ mvB l[j].prep l[j].chain l[j].by') (l.drop (j + 1))) := by
        show _ = _
        rw [List.drop_eq_getElem_cons hlt]; rfl
      obtain ⟨x, hx⟩ : ∃ x, l[j] = x := ⟨_, rfl⟩
      rw [hx] at c0 c1 c2 c3 g1 g2 g3 g4 hst
      clear hx
      obtain ⟨n, q, d, y⟩ := x
      dsimp only at c0 c1 c2 c3 g1 g2 g3 g4 hst
      have i0 : (0 : Int) ≤ (j : Int) := by omega
      have i1 : (j : Int) < (l.length : Int) := by omega
      have on : (oneB n).size = 1 := rfl
      have om := mvB_size (p := q) (b := y) g4
      have a3 := strAdd (a := s) (b := oneB n) (by omega)
      have a4 := strAdd (a := s ++ oneB n) (b := mvB q d y) (by rw [ByteArray.size_append, on]; omega)
      obtain ⟨wa, hwa⟩ : ∃ wa, wa = wr.alloc (.cells #[.int .i64 n, .int .i64 q, .string d, .int .i64 y] 43) := ⟨_, rfl⟩
      have hBa : Below wr.heap.size wr wa := by rw [hwa]; exact (Below.refl _ wr).alloc (Nat.le_refl _) _
      have H4 := hide (fun wx (h : Below wa.heap.size wa wx) => box4 (w := wr) (wr := wx) (by rw [← hwa]; exact h))
      obtain ⟨x0, x1, x2, x3⟩ := H4.out wa (Below.refl _ _)
      go_wp2
      rw [← hwa]
      clear hwa
      have hA := (Below.refl wa.heap.size wa).drew
      go_region_held3 (fun w' => w'.cell? ⟨wr.heap.size, 0, none⟩ = some (.int .i64 n) ∧ w'.cell? ⟨wr.heap.size, 1, none⟩ = some (.int .i64 q) ∧ w'.cell? ⟨wr.heap.size, 2, none⟩ = some (.string d) ∧ w'.cell? ⟨wr.heap.size, 3, none⟩ = some (.int .i64 y)) (go_keep)
        (first
          | (go_at_call 31; refine (one_any _ _ (by omega) (by omega)).mono ?_; rintro e w5 ⟨rfl, hb5⟩; have hA := hA.trans (hb5.mono hA.size); obtain ⟨x0, x1, x2, x3⟩ := H4.out _ hA)
          | (go_at_call 32; refine (move_any _ _ _ _ (by omega) (by omega) (by omega)).mono ?_; rintro e w5 ⟨rfl, hb5⟩; have hA := hA.trans (hb5.mono hA.size); obtain ⟨x0, x1, x2, x3⟩ := H4.out _ hA))
      go_wp2
      go_roundw
      case rel => exact ⟨j + 1, _, by omega, by go_num, rfl, by rw [← hst.out, henc.out]; rfl, by simp only [ByteArray.size_append, on]; omega, hB.trans ((hBa.mono hB.size).trans (hA.mono (Nat.le_trans hB.size hBa.size)))⟩
      case measure => simp [intOf]; omega
    · go_wp2
      go_ret2
      refine ⟨?_, hBw⟩
      rw [← henc.out, List.drop_eq_nil_of_le (by omega)]
      rfl

theorem refEnc_ok (m : Mg) (v : Value) (w : World) (hv : MovesAt w v m.moves) (hm : mayB m = true) :
    Calls Try.prog 16 #[mgV m v] w fun e w' => e = .returned (.tuple #[.string (encB m), .int .i64 0]) ∧ Below w.heap.size w w' := by
  have hk := (may_facts hm).kind
  by_cases h1 : m.kind = 1
  · exact refEnc1 m v w hv hm h1
  by_cases h2 : m.kind = 2
  · exact refEnc2 m v w hv hm h2
  by_cases h3 : m.kind = 3
  · exact refEnc3 m v w hv hm h3
  by_cases h4 : m.kind = 4
  · exact refEnc4 m v w hv hm h4
  by_cases h5 : m.kind = 5
  · exact refEnc5 m v w hv hm h5
  exact refEnc6 m v w hv hm (by omega)
end Go.Proofs.Ytlkhmldceekdaaa

/- The document's small functions: In, block. -/
namespace Go.Proofs.Ytlkhmldceekdaaa
open Go.RowKit
set_option linter.unusedVariables false

/-- a slice value that reads as these numbers -/
def Ints (w : World) (v : Value) (l : List Int) : Prop :=
  (l = [] ∧ v = .slice none 0 0) ∨ ∃ g cap, v = .slice (some ⟨g, 0, none⟩) l.length cap ∧ ∀ j, j < l.length → w.cell? ⟨g, j, none⟩ = some (.int .i64 (l.getD j 0))

set_option maxHeartbeats 400000 in
theorem in_any (l : List Int) (v : Value) (n : Int) (w : World) (hv : Ints w v l) (hl : l.length ≤ 1000) :
    Calls Try.prog 27 #[v, .int .i64 n] w fun e w' => e = .returned (.bool (decide (n ∈ l))) ∧ w' = w := by
  rcases hv with ⟨rfl, rfl⟩ | ⟨g, cap, rfl, hc⟩
  · go_enter Try.func27, Try.ntmps27
    go_wp2
    refine wp_loop_rounds 1 ?_
    rw [rounds_succ]
    go_wp2
    go_ret
    exact ⟨ret_bool (by simp), rfl⟩
  · go_enter Try.func27, Try.ntmps27
    go_wp2
    go_loop [5] (fun i => ∃ k : Nat, k ≤ l.length ∧ i = .int .i64 k ∧ n ∉ l.take k) (fun i => l.length - (intOf i).toNat)
    case atStart => exact ⟨0, Nat.zero_le _, rfl, by simp⟩
    case round =>
      obtain ⟨k, hk, rfl, hn⟩ := hrel
      by_cases hlt : k < l.length
      · have hck := hc k hlt
        have HN : Hid (n ∉ l.take k) := hn
        clear hn
        go_wp2
        · have hb : (l[k] == n) = true := by assumption
          go_ret
          refine ⟨ret_bool ?_, rfl⟩
          have e : l[k] = n := by simpa using hb
          rw [eq_comm, decide_eq_true_eq, ← e]
          exact List.getElem_mem hlt
        · have hb : (l[k] == n) = false := by assumption
          go_round
          case rel =>
            refine ⟨k + 1, by omega, by go_num, ?_⟩
            rw [List.take_succ_eq_append_getElem hlt, List.mem_append]
            rintro (h | h)
            · exact HN.out h
            · simp at h
              simp [h] at hb
          case measure => simp [intOf]; omega
      · go_wp2
        go_ret
        refine ⟨ret_bool ?_, rfl⟩
        rw [List.take_of_length_le (by omega)] at hn
        simp [hn]

theorem in_is (b : Bool) (l : List Int) (v : Value) (n : Int) (w : World) (hv : Ints w v l) (hl : l.length ≤ 1000) (h : decide (n ∈ l) = b) :
    Calls Try.prog 27 #[v, .int .i64 n] w fun e w' => e = .returned (.bool b) ∧ w' = w := by
  rw [← h]; exact in_any l v n w hv hl

set_option maxHeartbeats 400000 in
theorem block_any (s : ByteArray) (w : World) (hs : s.size = 3) :
    Calls Try.prog 26 #[.string s] w fun e w' => e = .returned (.bool (blkOk (byt s 0) (byt s 1) (byt s 2))) ∧ w' = w := by
  have h0 : 0 < s.size := by omega
  have h1 : 1 < s.size := by omega
  have h2 : 2 < s.size := by omega
  have e0 := byt_eq s 0 h0
  have e1 := byt_eq s 1 h1
  have e2 := byt_eq s 2 h2
  go_enter Try.func26, Try.ntmps26
  go_wp2
  all_goals
    go_ret
    refine ⟨ret_bool ?_, rfl⟩
    rw [Bool.eq_iff_iff, blkOk_iff]
    clear e0 e1 e2
    simp only [beq_iff_eq, decide_eq_true_eq, beq_eq_false_iff_ne, ne_eq, Bool.false_eq_true, false_iff] at *
    omega
end Go.Proofs.Ytlkhmldceekdaaa

/- The document's votes. -/
namespace Go.Proofs.Ytlkhmldceekdaaa
open Go.RowKit
set_option linter.unusedVariables false

theorem Try.info3 : (Try.prog.info? 3).map (fun i => (i.zero, i.size, i.bytes)) = some (some (.int .i64 0), 1, 8) := by kernel_rfl

theorem ints_of_owns {w : World} {base : Nat} {v : Value} {l : List Int} (h : w.ownsRow base 3 1 v l.length (l.map (Value.int .i64))) : Ints w v l := by
  obtain ⟨hl, h⟩ := h
  rcases h with ⟨rfl, h0⟩ | ⟨g, cap, cur, rfl, hb, hh, hc, hm, hs, ht⟩
  · exact .inl ⟨List.length_eq_zero_iff.1 h0, rfl⟩
  · refine .inr ⟨g, cap, rfl, fun j hj => ?_⟩
    have h' : w.ownsRow base 3 1 (.slice (some ⟨g, 0, none⟩) l.length cap) l.length (l.map (Value.int .i64)) := ⟨hl, .inr ⟨g, cap, cur, rfl, hb, hh, hc, hm, hs, ht⟩⟩
    rw [h'.cellAt j (by omega)]
    simp [List.getElem?_map, List.getElem?_eq_getElem hj, List.getD_eq_getElem?_getD]

theorem votesL_snoc (r : List Blk) (b : Blk) (sign node : Nat) : ∀ acc, votesL (r ++ [b]) sign node acc =
    (if b.2.1 = sign ∧ b.2.2 = node ∧ b.1 ∉ votesL r sign node acc then votesL r sign node acc ++ [b.1] else votesL r sign node acc) := by
  induction r with
  | nil => intro acc; rfl
  | cons c r ih => intro acc; simp only [List.cons_append, votesL]; exact ih _
theorem votesL_len (r : List Blk) (sign node : Nat) : ∀ acc, (votesL r sign node acc).length ≤ acc.length + r.length := by
  induction r with
  | nil => intro acc; simp [votesL]
  | cons c r ih =>
    intro acc
    simp only [votesL]
    refine Nat.le_trans (ih _) ?_
    split <;> simp <;> omega

/-- the first k blocks of a text -/
def blksTo (s : ByteArray) (k : Nat) : List Blk := (List.range k).map (blkAt s)
theorem blksTo_succ (s : ByteArray) (k : Nat) : blksTo s (k + 1) = blksTo s k ++ [blkAt s k] := by simp [blksTo, List.range_succ]
theorem blksTo_len (s : ByteArray) (k : Nat) : (blksTo s k).length = k := by simp [blksTo]

theorem votes_hit {s : ByteArray} {k sign node : Nat} (h : byt s (3 * k + 1) = sign ∧ byt s (3 * k + 2) - 48 = node ∧ byt s (3 * k) - 48 ∉ votesL (blksTo s k) sign node []) :
    votesL (blksTo s (k + 1)) sign node [] = votesL (blksTo s k) sign node [] ++ [byt s (3 * k) - 48] := by
  rw [blksTo_succ, votesL_snoc]; exact if_pos h
theorem votes_miss {s : ByteArray} {k sign node : Nat} (h : ¬ (byt s (3 * k + 1) = sign ∧ byt s (3 * k + 2) - 48 = node ∧ byt s (3 * k) - 48 ∉ votesL (blksTo s k) sign node [])) :
    votesL (blksTo s (k + 1)) sign node [] = votesL (blksTo s k) sign node [] := by
  rw [blksTo_succ, votesL_snoc]; exact if_neg h

def castL (l : List Nat) : List Int := l.map (fun n : Nat => (n : Int))
theorem mem_castL {n : Nat} {l : List Nat} : ((n : Int) ∈ castL l) ↔ n ∈ l := by
  unfold castL
  rw [List.mem_map]
  constructor
  · rintro ⟨a, ha, e⟩
    have : a = n := Int.ofNat.inj e
    exact this ▸ ha
  · intro h; exact ⟨n, h, rfl⟩

/-- BEHIND THE APPEND OF ONE NUMBER to a slice of the call's own -/
theorem push_ints {w0 wr w1 : World} {base : Nat} {l : List Int} {v v' : Value} {x : Int} {tmp : Obj} (hB : Below base w0 wr) (hsz : base ≤ wr.heap.size)
    (hown : wr.ownsRow base 3 1 v l.length (l.map (Value.int .i64))) (hown' : w1.ownsRow base 3 1 v' (l.length + 1) (l.map (Value.int .i64) ++ [.int .i64 x])) (hgrow : (wr.alloc tmp).grownBy w1 v.ownBlock) :
    w1.ownsRow base 3 1 v' (l ++ [x]).length ((l ++ [x]).map (Value.int .i64)) ∧ Below base w0 w1 := by
  refine ⟨by simpa using hown', (hB.alloc hsz tmp).grown hgrow (by simp; omega) fun k hk => (hown.lt k hk).1⟩
theorem castL_snoc (l : List Nat) (n : Nat) : castL (l ++ [n]) = castL l ++ [(n : Int)] := by simp [castL]

set_option maxRecDepth 100000 in
set_option maxHeartbeats 1000000 in
theorem votes_any (s : ByteArray) (sign node : Nat) (w : World) (hs : s.size = 9) (hg : sign < 256) (hn : node < 7) (hok : ∀ k, k < 3 → okAt s k = true) :
    Calls Try.prog 46 #[.string s, .int .u8 sign, .int .i64 node] w fun e w' => e = .returned (.int .i64 (votes (blksTo s 3) sign node)) ∧ Below w.heap.size w w' := by
  obtain ⟨i0, hi, hz0, hz1, hz2⟩ := info_parts Try.info3
  go_enter Try.func46, Try.ntmps46
  go_wp2
  go_loopw [7, 8] (fun v i wr => ∃ k : Nat, k ≤ 3 ∧ i = .int .i64 ((3 * k : Nat) : Int) ∧
      wr.ownsRow w.heap.size 3 1 v (castL (votesL (blksTo s k) sign node [])).length ((castL (votesL (blksTo s k) sign node [])).map (Value.int .i64)) ∧ Below w.heap.size w wr) (fun _ i _ => 9 - (intOf i).toNat)
  case atStart => exact ⟨0, Nat.zero_le _, rfl, World.ownsRow_nil _ _ _ _, Below.refl _ _⟩
  case round =>
    obtain ⟨k, hk, rfl, hown, hB⟩ := hrel
    have hlen : (castL (votesL (blksTo s k) sign node [])).length ≤ k := by
      have := votesL_len (blksTo s k) sign node []
      simpa [castL, blksTo_len] using this
    by_cases hlt : k < 3
    · have a0 : 3 * k < s.size := by omega
      have a1 : 3 * k + 1 < s.size := by omega
      have a2 : 3 * k + 2 < s.size := by omega
      have e0 := byt_eq s (3 * k) a0
      have e1 := byt_eq s (3 * k + 1) a1
      have e2 := byt_eq s (3 * k + 2) a2
      have hb := hok k hlt
      rw [okAt, blkOk_iff] at hb
      have HI := ints_of_owns hown
      have HOK : Hid (∀ k, k < 3 → okAt s k = true) := hok
      clear hok
      have hcast : ((byt s (3 * k) : Int) - 48) = ((byt s (3 * k) - 48 : Nat) : Int) := by omega
      have hsize := hB.size
      by_cases hP : byt s (3 * k + 1) = sign ∧ byt s (3 * k + 2) - 48 = node ∧ byt s (3 * k) - 48 ∉ votesL (blksTo s k) sign node []
      · have HS := hide (votes_hit hP)
        obtain ⟨hy, hz, hm⟩ := hP
        have hm' : decide (((byt s (3 * k) : Int) - 48) ∈ castL (votesL (blksTo s k) sign node [])) = false := by
          rw [hcast, decide_eq_false_iff_not, mem_castL]; exact hm
        have HC := hide hcast
        clear hcast hm
        have hyB : ((byt s (3 * k + 1) : Int) == (sign : Int)) = true := by simp [hy]
        have hzB : (((byt s (3 * k + 2) : Int) - 48) == (node : Int)) = true := by simp; omega
        have HY := hide hy
        have HZ := hide hz
        clear hy hz
        go_wp2_with (first
          | (go_at_call 27; refine (in_is false _ _ _ _ HI (by omega) hm').mono ?_; rintro e w' ⟨rfl, rfl⟩)
          | (at_builtin; refine wpList_append_own _ rfl _ _ 45 rfl w.heap.size 3 i0 (.int .i64 0) 1 8 Try.underlying45 hi hz0 hz1 hz2 rfl (by decide) _ _ _ rfl (hown.alloc _) ⟨_, 0, none⟩ 1 1 [.int .i64 ((byt s (3 * k) : Int) - 48)] rfl rfl (cell_one_new _ _ _) (by simp [Value.oneCell']) (by unfold maxLen; omega) (by omega) (by simp; omega) ?_; intro v' w1 hown' hgrow _))
        have R := push_ints hB hsize hown hown' hgrow
        rw [HC.out, ← castL_snoc, ← HS.out] at R
        clear hown' hgrow hown HI
        go_wp2
        go_roundw
        case rel => exact ⟨k + 1, by omega, by go_num, R.1, R.2⟩
        case measure => simp [intOf]; omega
      · have HS := hide (votes_miss hP)
        have HC := hide hcast
        have hmm : ∃ b, decide (((byt s (3 * k) : Int) - 48) ∈ castL (votesL (blksTo s k) sign node [])) = b := ⟨_, rfl⟩
        obtain ⟨b, hm'⟩ := hmm
        have hall : byt s (3 * k + 1) = sign → byt s (3 * k + 2) - 48 = node → b = true := by
          intro h1 h2
          cases b with
          | true => rfl
          | false =>
            rw [hcast, decide_eq_false_iff_not, mem_castL] at hm'
            exact absurd ⟨h1, h2, hm'⟩ hP
        clear hcast hP
        by_cases hy : byt s (3 * k + 1) = sign
        · have hyB : ((byt s (3 * k + 1) : Int) == (sign : Int)) = true := by simp [hy]
          by_cases hz : byt s (3 * k + 2) - 48 = node
          · have hzB : (((byt s (3 * k + 2) : Int) - 48) == (node : Int)) = true := by simp; omega
            have hbt := hall hy hz
            subst hbt
            clear hy hz hall
            go_wp2_with (go_at_call 27; refine (in_is true _ _ _ _ HI (by omega) hm').mono ?_; rintro e w' ⟨rfl, rfl⟩)
            go_roundw
            case rel => exact ⟨k + 1, by omega, by go_num, by rw [HS.out]; exact hown, hB⟩
            case measure => simp [intOf]; omega
          · have hzB : (((byt s (3 * k + 2) : Int) - 48) == (node : Int)) = false := by simp; omega
            clear hy hz hall
            go_wp2_with (go_at_call 27; refine (in_is b _ _ _ _ HI (by omega) hm').mono ?_; rintro e w' ⟨rfl, rfl⟩)
            go_roundw
            case rel => exact ⟨k + 1, by omega, by go_num, by rw [HS.out]; exact hown, hB⟩
            case measure => simp [intOf]; omega
        · have hyB : ((byt s (3 * k + 1) : Int) == (sign : Int)) = false := by simp; omega
          clear hy hall
          go_wp2_with (go_at_call 27; refine (in_is b _ _ _ _ HI (by omega) hm').mono ?_; rintro e w' ⟨rfl, rfl⟩)
          go_roundw
          case rel => exact ⟨k + 1, by omega, by go_num, by rw [HS.out]; exact hown, hB⟩
          case measure => simp [intOf]; omega
    · obtain rfl : k = 3 := by omega
      obtain ⟨hl0, hown⟩ := hown
      rcases hown with ⟨rfl, h0⟩ | ⟨g, cap, cur, rfl, _⟩
      · go_wp2
        go_ret
        exact ⟨ret_int (by simp only [castL, List.length_map] at h0; unfold votes; omega), hB⟩
      · go_wp2
        go_ret
        exact ⟨ret_int (by simp [votes, castL]), hB⟩
end Go.Proofs.Ytlkhmldceekdaaa

/- The document's turned. -/
namespace Go.Proofs.Ytlkhmldceekdaaa
open Go.RowKit
set_option linter.unusedVariables false

/-- a list of nodes that holds a set, in whatever order -/
def Holds7 (l : List Nat) (s : Nat) : Prop := (∀ x, x ∈ l → x < 7) ∧ (∀ x, x < 7 → (x ∈ l ↔ s.testBit x = true)) ∧ l.length = sizeS s

theorem Holds7.listed {s : Nat} : Holds7 (listed s) s :=
  ⟨fun _ h => (mem_listed.1 h).1, fun _ hx => ⟨fun h => (mem_listed.1 h).2, fun h => mem_listed.2 ⟨hx, h⟩⟩, rfl⟩
theorem Holds7.push {l : List Nat} {s n : Nat} (h : Holds7 l s) (hs : s < 128) (hn : n < 7) (hm : n ∉ l) : Holds7 (l ++ [n]) (withS s n) := by
  have ht : s.testBit n = false := by
    cases e : s.testBit n
    · rfl
    · exact absurd ((h.2.1 n hn).2 e) hm
  refine ⟨fun x hx => ?_, fun x hx => ?_, by rw [sizeS_with hs hn, ht]; simp [h.2.2]⟩
  · rcases List.mem_append.1 hx with h' | h'
    · exact h.1 x h'
    · simp at h'; omega
  · rw [has_with hs hn hx, List.mem_append, h.2.1 x hx]
    by_cases e : x = n
    · subst e; simp
    · simp [e]
theorem Holds7.same {l : List Nat} {s n : Nat} (h : Holds7 l s) (hs : s < 128) (hn : n < 7) (hm : n ∈ l) : Holds7 l (withS s n) := by
  have ht := (h.2.1 n hn).1 hm
  refine ⟨h.1, fun x hx => ?_, by rw [sizeS_with hs hn, ht]; simp [h.2.2]⟩
  rw [has_with hs hn hx, h.2.1 x hx]
  by_cases e : x = n
  · subst e; simp [ht]
  · simp [e]
def without (l : List Nat) (n : Nat) : List Nat := l.filter (fun x => x != n)
theorem without_len : ∀ (l : List Nat) (n : Nat), l.Nodup → n ∈ l → (without l n).length + 1 = l.length
  | [], n, _, h => by simp at h
  | a :: l, n, hd, h => by
    have hd' := List.nodup_cons.1 hd
    by_cases e : a = n
    · subst e
      have : without l a = l := List.filter_eq_self.2 fun x hx => by simp; intro e; exact hd'.1 (e ▸ hx)
      have h2 : without (a :: l) a = without l a := by simp [without]
      rw [h2, this]; simp
    · have h2 : without (a :: l) n = a :: without l n := by simp [without, e]
      have hm : n ∈ l := by simpa [Ne.symm e] using h
      rw [h2, List.length_cons, without_len l n hd'.2 hm, List.length_cons]
/-- the document's list as it goes: no node twice -/
def Walks7 (l : List Nat) (s : Nat) : Prop := l.Nodup ∧ Holds7 l s
theorem Walks7.listed {s : Nat} : Walks7 (listed s) s := ⟨List.Pairwise.filter _ List.nodup_range, Holds7.listed⟩
theorem Walks7.push {l : List Nat} {s n : Nat} (h : Walks7 l s) (hs : s < 128) (hn : n < 7) (hm : n ∉ l) : Walks7 (l ++ [n]) (withS s n) := by
  refine ⟨?_, h.2.push hs hn hm⟩
  rw [List.nodup_append]
  refine ⟨h.1, by simp, fun a ha b hb => ?_⟩
  simp at hb
  intro e
  exact hm (hb ▸ e ▸ ha)
theorem Walks7.same {l : List Nat} {s n : Nat} (h : Walks7 l s) (hs : s < 128) (hn : n < 7) (hm : n ∈ l) : Walks7 l (withS s n) := ⟨h.1, h.2.same hs hn hm⟩
theorem Walks7.drop {l : List Nat} {s n : Nat} (h : Walks7 l s) (hs : s < 128) (hn : n < 7) (hm : n ∈ l) : Walks7 (without l n) (withoutS s n) := by
  have ht := (h.2.2.1 n hn).1 hm
  refine ⟨List.Pairwise.filter _ h.1, fun x hx => h.2.1 x (List.mem_filter.1 hx).1, fun x hx => ?_, ?_⟩
  · rw [has_without hs hn hx, without, List.mem_filter, h.2.2.1 x hx]
    by_cases e : x = n
    · subst e; simp
    · simp [e]
  · have h1 := without_len l n h.1 hm
    have h2 := sizeS_without hs hn
    rw [ht] at h2
    simp at h2
    have h3 := h.2.2.2
    omega
theorem Walks7.len {l : List Nat} {s : Nat} (h : Walks7 l s) : l.length ≤ 7 := by rw [h.2.2.2]; exact sizeS_le
theorem Walks7.mem {l : List Nat} {s n : Nat} (h : Walks7 l s) (hn : n < 7) : decide (n ∈ l) = s.testBit n := by
  rw [Bool.eq_iff_iff, decide_eq_true_eq, h.2.2.1 n hn]
theorem without_snoc (l : List Nat) (k n : Nat) (hk : k < l.length) : without (l.take (k + 1)) n = if l[k] = n then without (l.take k) n else without (l.take k) n ++ [l[k]] := by
  rw [List.take_succ_eq_append_getElem hk]
  unfold without
  rw [List.filter_append]
  by_cases e : l[k] = n
  · rw [if_pos e]
    have : List.filter (fun x => x != n) [l[k]] = [] := by simp [e]
    rw [this, List.append_nil]
  · rw [if_neg e]
    have : List.filter (fun x => x != n) [l[k]] = [l[k]] := by simp [e]
    rw [this]
def listedTo (s k : Nat) : List Nat := (List.range k).filter (fun i => s.testBit i)
theorem listedTo_succ (s k : Nat) : listedTo s (k + 1) = if s.testBit k = true then listedTo s k ++ [k] else listedTo s k := by
  by_cases e : s.testBit k = true <;> simp [listedTo, List.range_succ, e]
theorem listedTo_len (s k : Nat) : (listedTo s k).length ≤ k := by
  have h := List.length_filter_le (fun i => s.testBit i) (List.range k)
  simpa [listedTo] using h
end Go.Proofs.Ytlkhmldceekdaaa

/- The document's turned, walked. -/
namespace Go.Proofs.Ytlkhmldceekdaaa
open Go.RowKit
set_option linter.unusedVariables false

theorem ownsRow_below {w w' : World} {base : Nat} {e : TypeId} {size : Nat} {v : Value} {n : Nat} {xs : List Value} (h : w.ownsRow base e size v n xs) (hb : Below w.heap.size w w') : w'.ownsRow base e size v n xs := by
  obtain ⟨hl, h⟩ := h
  refine ⟨hl, ?_⟩
  rcases h with ⟨rfl, h0⟩ | ⟨g, cap, cur, rfl, hg, hh, hr⟩
  · exact .inl ⟨rfl, h0⟩
  · exact .inr ⟨g, cap, cur, rfl, hg, (hb.block g (lt_of_block hh)).trans hh, hr⟩
theorem ownsRow_mono {w : World} {base base' : Nat} {e : TypeId} {size : Nat} {v : Value} {n : Nat} {xs : List Value} (h : w.ownsRow base e size v n xs) (hb : base' ≤ base) : w.ownsRow base' e size v n xs := by
  obtain ⟨hl, h⟩ := h
  refine ⟨hl, ?_⟩
  rcases h with ⟨rfl, h0⟩ | ⟨g, cap, cur, rfl, hg, hh, hr⟩
  · exact .inl ⟨rfl, h0⟩
  · exact .inr ⟨g, cap, cur, rfl, Nat.le_trans hb hg, hh, hr⟩
/-- a slice of numbers that lies in memory from block 'base' on -/
def OwnInts (w : World) (base : Nat) (v : Value) (l : List Nat) : Prop := w.ownsRow base 3 1 v (castL l).length ((castL l).map (Value.int .i64))
theorem OwnInts.ints {w : World} {base : Nat} {v : Value} {l : List Nat} (h : OwnInts w base v l) : Ints w v (castL l) := ints_of_owns h
theorem castL_len (l : List Nat) : (castL l).length = l.length := by simp [castL]
theorem OwnInts.slice {w : World} {base : Nat} {v : Value} {l : List Nat} (h : OwnInts w base v l) : ∃ ao cap, v = .slice ao l.length cap := by
  rcases h.2 with ⟨rfl, h0⟩ | ⟨g, cap, cur, rfl, _⟩
  · rw [castL_len] at h0; exact ⟨none, 0, by rw [h0]⟩
  · rw [castL_len]; exact ⟨_, _, rfl⟩

theorem OwnInts.at {w : World} {base n cap : Nat} {ao : Option Addr} {l : List Nat} (h : OwnInts w base (.slice ao n cap) l) (hl : 0 < l.length) :
    ∃ g, ao = some ⟨g, 0, none⟩ ∧ g < w.heap.size ∧ ∀ j, j < l.length → w.cell? ⟨g, j, none⟩ = some (.int .i64 ((l.getD j 0 : Nat) : Int)) := by
  have h' : w.ownsRow base 3 1 (.slice ao n cap) (castL l).length ((castL l).map (Value.int .i64)) := h
  rcases h.2 with ⟨_, h0⟩ | ⟨g, cap', cur, e, hg, hh, _⟩
  · rw [castL_len] at h0; omega
  · injection e with e1 e2 e3
    subst e1 e2
    refine ⟨g, rfl, lt_of_block hh, fun j hj => ?_⟩
    rw [h'.cellAt j (by rw [castL_len]; omega)]
    simp [castL, List.getElem?_map, List.getElem?_eq_getElem hj, List.getD_eq_getElem?_getD]

theorem votes_plus (s : ByteArray) (node a : Nat) (w : World) (hs : s.size = 9) (hn : node < 7) (hok : ∀ k, k < 3 → okAt s k = true) (h : votes (blksTo s 3) 43 node = a) :
    Calls Try.prog 46 #[.string s, .int .u8 43, .int .i64 node] w fun e w' => e = .returned (.int .i64 a) ∧ Below w.heap.size w w' := by
  rw [← h]; exact votes_any s 43 node w hs (by omega) hn hok
theorem votes_minus (s : ByteArray) (node a : Nat) (w : World) (hs : s.size = 9) (hn : node < 7) (hok : ∀ k, k < 3 → okAt s k = true) (h : votes (blksTo s 3) 45 node = a) :
    Calls Try.prog 46 #[.string s, .int .u8 45, .int .i64 node] w fun e w' => e = .returned (.int .i64 a) ∧ Below w.heap.size w w' := by
  rw [← h]; exact votes_any s 45 node w hs (by omega) hn hok

set_option maxRecDepth 100000 in
set_option maxHeartbeats 2000000 in
theorem turned_any (s : ByteArray) (l : List Nat) (s0 base : Nat) (v : Value) (w : World) (hs : s.size = 9) (hok : ∀ k, k < 3 → okAt s k = true) (h0 : s0 < 128) (hl : l = listed s0)
    (hbase : base ≤ w.heap.size) (hv : OwnInts w base v l) :
    Calls Try.prog 28 #[v, .string s] w fun e w' => ∃ v', e = .returned v' ∧ OwnInts w' base v' (listed (countS (blksTo s 3) s0)) ∧ Below base w w' := by
  obtain ⟨i0, hi, hz0, hz1, hz2⟩ := info_parts Try.info3
  have HOK : Hid (∀ k, k < 3 → okAt s k = true) := hok
  clear hok
  go_enter Try.func28, Try.ntmps28
  go_wp2
  go_loopw [0, 5] (fun x i wr => ∃ (k : Nat) (L : List Nat), k ≤ 7 ∧ i = .int .i64 (k : Int) ∧ Walks7 L (countTo (blksTo s 3) s0 k) ∧ OwnInts wr base x L ∧ Below base w wr) (fun _ i _ => 7 - (intOf i).toNat)
  case atStart => exact ⟨0, l, Nat.zero_le _, rfl, by subst hl; exact Walks7.listed, hv, Below.refl _ _⟩
  case round =>
    obtain ⟨k, L, hk, rfl, hW, hown, hB⟩ := hrel
    have hlt0 := countTo_lt (bl := blksTo s 3) h0 k hk
    have hLl := hW.len
    by_cases hlt : k < 7
    · obtain ⟨sk, hsk⟩ : ∃ sk, countTo (blksTo s 3) s0 k = sk := ⟨_, rfl⟩
      obtain ⟨a, ha⟩ : ∃ a, votes (blksTo s 3) 43 k = a := ⟨_, rfl⟩
      obtain ⟨c, hc⟩ : ∃ c, votes (blksTo s 3) 45 k = c := ⟨_, rfl⟩
      have hstep : countTo (blksTo s 3) s0 (k + 1) = if 2 ≤ a then withS sk k else if 2 ≤ c ∧ sk.testBit k = true ∧ 4 < sizeS sk then withoutS sk k else sk := by
        rw [countTo, stepS, hsk, ha, hc]
      rw [hsk] at hW hlt0
      have hm := hW.mem hlt
      obtain ⟨b, hb⟩ : ∃ b, sk.testBit k = b := ⟨_, rfl⟩
      rw [hb] at hm
      have hm' : decide ((k : Int) ∈ castL L) = b := by rw [← hm]; simp only [mem_castL]
      have hmem : b = true ↔ k ∈ L := by rw [← hm]; simp
      have hsL := hW.2.2.2
      have HSK := hide hsk
      have HA := hide ha
      have HC := hide hc
      have HB := hide hb
      have HI := hown.ints
      have hl5 : (castL L).length ≤ 7 := by rw [castL_len]; exact hLl
      have hsz := hB.size
      obtain ⟨ao, cap, rfl⟩ := hown.slice
      rw [hb, ← hsL] at hstep
      clear hsk ha hc hb hm hsL
      by_cases h1 : 2 ≤ a
      · rw [if_pos h1] at hstep
        have HS := hide hstep
        clear hstep
        cases b with
        | false =>
          have hW' := hW.push hlt0 hlt (by rw [← hmem]; simp)
          rw [← HS.out] at hW'
          clear hmem
          have HW := hide hW'
          clear hW'
          go_wp2_with (go_at_call 27; refine (in_is false _ _ _ _ HI (by omega) hm').mono ?_; rintro e w' ⟨rfl, rfl⟩)
          refine (votes_plus s k a _ hs hlt HOK.out HA.out).mono ?_
          rintro e w1 ⟨rfl, hb1⟩
          go_wp2_with fail
          refine (votes_minus s k c _ hs hlt HOK.out HC.out).mono ?_
          rintro e w2 ⟨rfl, hb2⟩
          have hb3 : Below w'.heap.size w' w2 := hb1.trans (hb2.mono hb1.size)
          have hown2 : OwnInts w2 base (.slice ao L.length cap) L := ownsRow_below hown hb3
          have hsz3 := hb3.size
          clear hb1 hb2
          go_wp2_with (at_builtin; refine wpList_append_own _ rfl _ _ 45 rfl base 3 i0 (.int .i64 0) 1 8 Try.underlying45 hi hz0 hz1 hz2 rfl (by decide) _ _ _ rfl (World.ownsRow.alloc hown2 _) ⟨_, 0, none⟩ 1 1 [.int .i64 (k : Int)] rfl rfl (cell_one_new _ _ _) (by simp [Value.oneCell']) (by unfold maxLen; omega) (by omega) (by simp; omega) ?_; intro v' w1 hown' hgrow _)
          have R := push_ints (hB.trans (hb3.mono (by omega))) (by omega) hown2 hown' hgrow
          rw [← castL_snoc] at R
          clear hown' hgrow
          go_wp2
          go_roundw
          case rel => exact ⟨k + 1, L ++ [k], by omega, by go_num, HW.out, R.1, R.2⟩
          case measure => simp [intOf]; omega
        | true =>
          have hW' := hW.same hlt0 hlt (hmem.1 rfl)
          rw [← HS.out] at hW'
          clear hmem
          have HW := hide hW'
          clear hW'
          go_wp2_with (go_at_call 27; refine (in_is true _ _ _ _ HI (by omega) hm').mono ?_; rintro e w' ⟨rfl, rfl⟩)
          refine (votes_plus s k a _ hs hlt HOK.out HA.out).mono ?_
          rintro e w1 ⟨rfl, hb1⟩
          go_wp2_with fail
          refine (votes_minus s k c _ hs hlt HOK.out HC.out).mono ?_
          rintro e w2 ⟨rfl, hb2⟩
          have hb3 : Below w'.heap.size w' w2 := hb1.trans (hb2.mono hb1.size)
          have hown2 : OwnInts w2 base (.slice ao L.length cap) L := ownsRow_below hown hb3
          clear hb1 hb2
          go_wp2
          go_roundw
          case rel => exact ⟨k + 1, L, by omega, by go_num, HW.out, hown2, hB.trans (hb3.mono (by omega))⟩
          case measure => simp [intOf]; omega
      · rw [if_neg h1] at hstep
        by_cases h2 : 2 ≤ c ∧ b = true ∧ 4 < L.length
        · rw [if_pos h2] at hstep
          obtain ⟨h3, rfl, h4⟩ := h2
          have hW' := hW.drop hlt0 hlt (hmem.1 rfl)
          rw [← hstep] at hW'
          have HW := hide hW'
          clear hW hW' hstep hmem
          have h1B : decide (2 ≤ (a : Int)) = false := by simp; omega
          have h3B : decide (2 ≤ (c : Int)) = true := by simp; omega
          have h4B : decide (4 < (L.length : Int)) = true := by simp; omega
          obtain ⟨g, rfl, hg, hcell⟩ := hown.at (by omega)
          go_wp2_with (go_at_call 27; refine (in_is true _ _ _ _ HI (by omega) hm').mono ?_; rintro e w' ⟨rfl, rfl⟩)
          refine (votes_plus s k a _ hs hlt HOK.out HA.out).mono ?_
          rintro e w1 ⟨rfl, hb1⟩
          go_wp2_with fail
          refine (votes_minus s k c _ hs hlt HOK.out HC.out).mono ?_
          rintro e w2 ⟨rfl, hb2⟩
          have hb3 : Below w'.heap.size w' w2 := hb1.trans (hb2.mono hb1.size)
          have hsz3 := hb3.size
          have HCELL := hide hcell
          clear hb1 hb2 hcell HI hown
          go_wp2
          go_loopw [9, 10] (fun x i wr' => ∃ (j : Nat), j ≤ L.length ∧ i = .int .i64 (j : Int) ∧ OwnInts wr' w2.heap.size x (without (L.take j) k) ∧ Below w2.heap.size w2 wr') (fun _ i _ => L.length - (intOf i).toNat)
          case atStart => exact ⟨0, Nat.zero_le _, rfl, World.ownsRow_nil _ _ _ _, Below.refl _ _⟩
          case round =>
            obtain ⟨j, hj, rfl, hown4, hB4⟩ := hrel
            have hsz4 := hB4.size
            have hlw : (castL (without (L.take j) k)).length ≤ 7 := by
              rw [castL_len]
              refine Nat.le_trans (List.length_filter_le _ _) ?_
              rw [List.length_take]; omega
            by_cases hjl : j < L.length
            · have hcj := HCELL.out j hjl
              rw [← hb3.cell (p := ⟨g, j, none⟩) hg, ← hB4.cell (p := ⟨g, j, none⟩) (show g < w2.heap.size by omega)] at hcj
              have hsn := without_snoc L j k hjl
              have hgd : L.getD j 0 = L[j] := by simp [List.getD_eq_getElem?_getD, hjl]
              rw [hgd] at hcj
              obtain ⟨x, hx⟩ : ∃ x, L[j] = x := ⟨_, rfl⟩
              rw [hx] at hcj hsn
              clear hx hgd
              by_cases e : x = k
              · rw [if_pos e] at hsn
                have HSN := hide hsn
                have hxB : ((x : Int) != (k : Int)) = false := by simp [e]
                clear hsn e
                go_wp2
                go_roundw
                case rel => exact ⟨j + 1, by omega, by go_num, by rw [HSN.out]; exact hown4, hB4⟩
                case measure => simp [intOf]; omega
              · rw [if_neg e] at hsn
                have HSN := hide hsn
                have hxB : ((x : Int) != (k : Int)) = true := by simp; omega
                clear hsn e
                go_wp2_with (at_builtin; refine wpList_append_own _ rfl _ _ 45 rfl w2.heap.size 3 i0 (.int .i64 0) 1 8 Try.underlying45 hi hz0 hz1 hz2 rfl (by decide) _ _ _ rfl (World.ownsRow.alloc hown4 _) ⟨_, 0, none⟩ 1 1 [.int .i64 (x : Int)] rfl rfl (cell_one_new _ _ _) (by simp [Value.oneCell']) (by unfold maxLen; omega) (by omega) (by simp; omega) ?_; intro v' w1 hown' hgrow _)
                have R := push_ints hB4 hsz4 hown4 hown' hgrow
                rw [← castL_snoc, ← HSN.out] at R
                clear hown' hgrow
                go_wp2
                go_roundw
                case rel => exact ⟨j + 1, by omega, by go_num, R.1, R.2⟩
                case measure => simp [intOf]; omega
            · have HT : Hid (L.take j = L) := List.take_of_length_le (by omega)
              go_wp2
              go_roundw
              case rel => exact ⟨k + 1, without L k, by omega, by go_num, HW.out, by rw [HT.out] at hown4; exact ownsRow_mono hown4 (by omega), (hB.trans (hb3.mono (by omega))).trans (hB4.mono (by omega))⟩
              case measure => simp [intOf]; omega
        · rw [if_neg h2] at hstep
          rw [← hstep] at hW
          have HW := hide hW
          clear hW hstep hmem
          by_cases h3 : 2 ≤ c
          · cases b with
            | false =>
              clear h2
              go_wp2_with (go_at_call 27; refine (in_is false _ _ _ _ HI (by omega) hm').mono ?_; rintro e w' ⟨rfl, rfl⟩)
              refine (votes_plus s k a _ hs hlt HOK.out HA.out).mono ?_
              rintro e w1 ⟨rfl, hb1⟩
              go_wp2_with fail
              refine (votes_minus s k c _ hs hlt HOK.out HC.out).mono ?_
              rintro e w2 ⟨rfl, hb2⟩
              have hb3 : Below w'.heap.size w' w2 := hb1.trans (hb2.mono hb1.size)
              have hown2 : OwnInts w2 base (.slice ao L.length cap) L := ownsRow_below hown hb3
              clear hb1 hb2
              go_wp2
              go_roundw
              case rel => exact ⟨k + 1, L, by omega, by go_num, HW.out, hown2, hB.trans (hb3.mono (by omega))⟩
              case measure => simp [intOf]; omega
            | true =>
              have h4 : L.length ≤ 4 := by
                apply Nat.le_of_not_lt
                intro h
                exact h2 ⟨h3, rfl, h⟩
              clear h2
              go_wp2_with (go_at_call 27; refine (in_is true _ _ _ _ HI (by omega) hm').mono ?_; rintro e w' ⟨rfl, rfl⟩)
              refine (votes_plus s k a _ hs hlt HOK.out HA.out).mono ?_
              rintro e w1 ⟨rfl, hb1⟩
              go_wp2_with fail
              refine (votes_minus s k c _ hs hlt HOK.out HC.out).mono ?_
              rintro e w2 ⟨rfl, hb2⟩
              have hb3 : Below w'.heap.size w' w2 := hb1.trans (hb2.mono hb1.size)
              have hown2 : OwnInts w2 base (.slice ao L.length cap) L := ownsRow_below hown hb3
              clear hb1 hb2
              go_wp2
              go_roundw
              case rel => exact ⟨k + 1, L, by omega, by go_num, HW.out, hown2, hB.trans (hb3.mono (by omega))⟩
              case measure => simp [intOf]; omega
          · clear h2
            go_wp2_with (go_at_call 27; refine (in_is b _ _ _ _ HI (by omega) hm').mono ?_; rintro e w' ⟨rfl, rfl⟩)
            refine (votes_plus s k a _ hs hlt HOK.out HA.out).mono ?_
            rintro e w1 ⟨rfl, hb1⟩
            go_wp2_with fail
            refine (votes_minus s k c _ hs hlt HOK.out HC.out).mono ?_
            rintro e w2 ⟨rfl, hb2⟩
            have hb3 : Below w'.heap.size w' w2 := hb1.trans (hb2.mono hb1.size)
            have hown2 : OwnInts w2 base (.slice ao L.length cap) L := ownsRow_below hown hb3
            clear hb1 hb2
            go_wp2
            go_roundw
            case rel => exact ⟨k + 1, L, by omega, by go_num, HW.out, hown2, hB.trans (hb3.mono (by omega))⟩
            case measure => simp [intOf]; omega
    · obtain ⟨sf, hsf⟩ : ∃ sf, countTo (blksTo s 3) s0 k = sf := ⟨_, rfl⟩
      have HSF : Hid (countS (blksTo s 3) s0 = sf) := by
        have hk7 : k = 7 := by omega
        rw [hk7] at hsf
        exact hsf
      rw [hsf] at hW hlt0
      clear hsf
      have hsz := hB.size
      go_wp2
      go_loopw [11, 12] (fun x i wr' => ∃ (j : Nat), j ≤ 7 ∧ i = .int .i64 (j : Int) ∧ OwnInts wr' wr.heap.size x (listedTo sf j) ∧ Below wr.heap.size wr wr') (fun _ i _ => 7 - (intOf i).toNat)
      case atStart => exact ⟨0, Nat.zero_le _, rfl, World.ownsRow_nil _ _ _ _, Below.refl _ _⟩
      case round =>
        obtain ⟨j, hj, rfl, hown3, hB3⟩ := hrel
        have hi3 := (show OwnInts _ base _ L from ownsRow_below hown hB3).ints
        have hsz3 := hB3.size
        have hl3 := listedTo_len sf j
        have hl4 : (castL (listedTo sf j)).length ≤ j := by rw [castL_len]; exact hl3
        have hl5 : (castL L).length ≤ 7 := by rw [castL_len]; exact hLl
        by_cases hlt : j < 7
        · have hm := hW.mem hlt
          have hm' : decide ((j : Int) ∈ castL L) = sf.testBit j := by rw [← hm]; simp only [mem_castL]
          cases hb : sf.testBit j with
          | true =>
            rw [hb] at hm'
            have HT : Hid (listedTo sf (j + 1) = listedTo sf j ++ [j]) := by rw [listedTo_succ, if_pos hb]; rfl
            clear hm hb
            go_wp2_with (first
              | (go_at_call 27; refine (in_is true _ _ _ _ hi3 (by omega) hm').mono ?_; rintro e w' ⟨rfl, rfl⟩)
              | (at_builtin; refine wpList_append_own _ rfl _ _ 45 rfl wr.heap.size 3 i0 (.int .i64 0) 1 8 Try.underlying45 hi hz0 hz1 hz2 rfl (by decide) _ _ _ rfl (World.ownsRow.alloc hown3 _) ⟨_, 0, none⟩ 1 1 [.int .i64 (j : Int)] rfl rfl (cell_one_new _ _ _) (by simp [Value.oneCell']) (by unfold maxLen; omega) (by omega) (by simp; omega) ?_; intro v' w1 hown' hgrow _))
            have R := push_ints hB3 hsz3 hown3 hown' hgrow
            rw [← castL_snoc, ← HT.out] at R
            clear hown' hgrow
            go_wp2
            go_roundw
            case rel => exact ⟨j + 1, by omega, by go_num, R.1, R.2⟩
            case measure => simp [intOf]; omega
          | false =>
            rw [hb] at hm'
            have HT : Hid (listedTo sf (j + 1) = listedTo sf j) := by rw [listedTo_succ, if_neg (by simp [hb])]; rfl
            clear hm hb
            go_wp2_with (go_at_call 27; refine (in_is false _ _ _ _ hi3 (by omega) hm').mono ?_; rintro e w' ⟨rfl, rfl⟩)
            go_roundw
            case rel => exact ⟨j + 1, by omega, by go_num, by rw [HT.out]; exact hown3, hB3⟩
            case measure => simp [intOf]; omega
        · obtain rfl : j = 7 := by omega
          go_wp2
          go_ret
          refine ⟨_, rfl, ?_, hB.trans (hB3.mono (by omega))⟩
          rw [HSF.out]
          exact ownsRow_mono hown3 (by omega)
end Go.Proofs.Ytlkhmldceekdaaa

/- The document's Members and Leader. -/
namespace Go.Proofs.Ytlkhmldceekdaaa
open Go.RowKit
set_option linter.unusedVariables false

theorem memTo_ok {c : ByteArray} {s0 : Nat} : ∀ k s, memTo c s0 k = some s → ∀ j, j < k → okAt c j = true
  | 0, _, _, j, hj => by omega
  | k + 1, s, h, j, hj => by
    rw [memTo] at h
    cases hm : memTo c s0 k with
    | none => rw [hm] at h; cases h
    | some s' =>
      rw [hm] at h
      simp only at h
      split at h
      · rename_i hc
        by_cases e : j = k
        · rw [e]; exact hc.1
        · exact memTo_ok k s' hm j (by omega)
      · cases h
theorem byt_extract (c : ByteArray) (a b i : Nat) (h1 : a + i < b) (h2 : b ≤ c.size) : byt (c.extract a b) i = byt c (a + i) := by
  have hs : i < (c.extract a b).size := by rw [ByteArray.size_extract]; omega
  rw [← byt_eq (c.extract a b) i hs, ← byt_eq c (a + i) (by omega)]
  rw [ByteArray.getElem_extract]

theorem memTo_succ {c : ByteArray} {s0 k s : Nat} (h : memTo c s0 k = some s) : memTo c s0 (k + 1) =
    if okAt c k = true ∧ s.testBit (byt c (3 * k) - 48) = true then some (if (k + 1) % 3 = 0 then countS [blkAt c (k - 2), blkAt c (k - 1), blkAt c k] s else s) else none := by
  rw [memTo, h]
theorem entry_facts (c : ByteArray) (j : Nat) (h : 3 * (j + 1) ≤ c.size) : (c.extract (3 * (j + 1) - 3) (3 * (j + 1))).size = 3 ∧
    byt (c.extract (3 * (j + 1) - 3) (3 * (j + 1))) 0 = byt c (3 * j) ∧ byt (c.extract (3 * (j + 1) - 3) (3 * (j + 1))) 1 = byt c (3 * j + 1) ∧ byt (c.extract (3 * (j + 1) - 3) (3 * (j + 1))) 2 = byt c (3 * j + 2) := by
  have e : 3 * (j + 1) - 3 = 3 * j := by omega
  rw [e]
  refine ⟨by rw [ByteArray.size_extract]; omega, ?_, ?_, ?_⟩
  · rw [byt_extract c _ _ 0 (by omega) h]; rfl
  · rw [byt_extract c _ _ 1 (by omega) h]
  · rw [byt_extract c _ _ 2 (by omega) h]
theorem epoch_facts (c : ByteArray) (j : Nat) (h : 3 * (j + 1) ≤ c.size) (h2 : 2 ≤ j) : (c.extract (3 * (j + 1) - 9) (3 * (j + 1))).size = 9 ∧
    (∀ k, k < 3 → okAt (c.extract (3 * (j + 1) - 9) (3 * (j + 1))) k = okAt c (j - 2 + k)) ∧ blksTo (c.extract (3 * (j + 1) - 9) (3 * (j + 1))) 3 = [blkAt c (j - 2), blkAt c (j - 1), blkAt c j] := by
  have e : 3 * (j + 1) - 9 = 3 * (j - 2) := by omega
  rw [e]
  have hb : ∀ i, i < 9 → byt (c.extract (3 * (j - 2)) (3 * (j + 1))) i = byt c (3 * (j - 2) + i) := fun i hi => byt_extract c _ _ i (by omega) h
  refine ⟨by rw [ByteArray.size_extract]; omega, fun k hk => ?_, ?_⟩
  · unfold okAt
    rw [hb _ (by omega), hb _ (by omega), hb _ (by omega)]
    have e1 : 3 * (j - 2) + 3 * k = 3 * (j - 2 + k) := by omega
    have e2 : 3 * (j - 2) + (3 * k + 1) = 3 * (j - 2 + k) + 1 := by omega
    have e3 : 3 * (j - 2) + (3 * k + 2) = 3 * (j - 2 + k) + 2 := by omega
    rw [e1, e2, e3]
  · have hat : ∀ k, k < 3 → blkAt (c.extract (3 * (j - 2)) (3 * (j + 1))) k = blkAt c (j - 2 + k) := by
      intro k hk
      unfold blkAt
      rw [hb _ (by omega), hb _ (by omega), hb _ (by omega)]
      have e1 : 3 * (j - 2) + 3 * k = 3 * (j - 2 + k) := by omega
      have e2 : 3 * (j - 2) + (3 * k + 1) = 3 * (j - 2 + k) + 1 := by omega
      have e3 : 3 * (j - 2) + (3 * k + 2) = 3 * (j - 2 + k) + 2 := by omega
      rw [e1, e2, e3]
    have e1 : j - 2 + 0 = j - 2 := by omega
    have e2 : j - 2 + 1 = j - 1 := by omega
    have e3 : j - 2 + 2 = j := by omega
    show [blkAt _ 0, blkAt _ 1, blkAt _ 2] = _
    rw [hat 0 (by omega), hat 1 (by omega), hat 2 (by omega), e1, e2, e3]
theorem block_is (b : Bool) (s : ByteArray) (w : World) (hs : s.size = 3) (h : blkOk (byt s 0) (byt s 1) (byt s 2) = b) :
    Calls Try.prog 26 #[.string s] w fun e w' => e = .returned (.bool b) ∧ w' = w := by
  rw [← h]; exact block_any s w hs

theorem bool_tuple {v : Value} {a b : Bool} (h : a = b) : Ending.returned (.tuple #[v, .bool a]) = .returned (.tuple #[v, .bool b]) := by rw [h]
set_option maxRecDepth 100000 in
set_option maxHeartbeats 2000000 in
theorem refMembers_any (n : Nat) (c : ByteArray) (w : World) (hn4 : 4 ≤ n) (hn8 : n < 8) (hc : c.size ≤ maxLen) :
    Calls Try.prog 11 #[.int .i64 n, .string c] w fun e w' => ∃ v, e = .returned (.tuple #[v, .bool (members n c).isSome]) ∧ Below w.heap.size w w' ∧
      (∀ s, members n c = some s → OwnInts w' w.heap.size v (listed s)) ∧ (members n c = none → v = .slice none 0 0) := by
  unfold maxLen at hc
  obtain ⟨i0, hi, hz0, hz1, hz2⟩ := info_parts Try.info3
  go_enter Try.func11, Try.ntmps11
  go_wp2
  go_loopw [6, 7] (fun x i wr => ∃ k : Nat, k ≤ n ∧ i = .int .i64 (k : Int) ∧ OwnInts wr w.heap.size x (List.range k) ∧ Below w.heap.size w wr) (fun _ i _ => n - (intOf i).toNat)
  case atStart => exact ⟨0, Nat.zero_le _, rfl, World.ownsRow_nil _ _ _ _, Below.refl _ _⟩
  case round =>
    obtain ⟨k, hk, rfl, hown, hB⟩ := hrel
    have hsz := hB.size
    have hlen : (castL (List.range k)).length ≤ 7 := by rw [castL_len, List.length_range]; omega
    by_cases hlt : k < n
    · go_wp2_with (at_builtin; refine wpList_append_own _ rfl _ _ 45 rfl w.heap.size 3 i0 (.int .i64 0) 1 8 Try.underlying45 hi hz0 hz1 hz2 rfl (by decide) _ _ _ rfl (World.ownsRow.alloc hown _) ⟨_, 0, none⟩ 1 1 [.int .i64 (k : Int)] rfl rfl (cell_one_new _ _ _) (by simp [Value.oneCell']) (by unfold maxLen; omega) (by omega) (by simp; omega) ?_; intro v' w1 hown' hgrow _)
      have R := push_ints hB hsz hown hown' hgrow
      rw [← castL_snoc, ← List.range_succ] at R
      clear hown' hgrow
      go_wp2
      go_roundw
      case rel => exact ⟨k + 1, by omega, by go_num, R.1, R.2⟩
      case measure => simp [intOf]; omega
    · have HL : Hid (List.range k = listed (firstS n)) := by
        have e : k = n := by omega
        rw [e]; exact (listed_first hn8).symm
      by_cases hok : c.size % 3 = 0 ∧ c.size ≤ 18
      · obtain ⟨h3, h18⟩ := hok
        have HM : Hid (members n c = memTo c (firstS n) (c.size / 3)) := if_pos ⟨h3, h18⟩
        have h3B : (((c.size : Int) % 3) != 0) = false := by simp; omega
        have h18B : decide (18 < (c.size : Int)) = false := by simp; omega
        rw [HL.out] at hown
        go_wp2
        go_loopw [6, 8] (fun x i wr' => ∃ (j s : Nat), j ≤ c.size / 3 ∧ i = .int .i64 ((j + 1 : Nat) : Int) ∧ Hid (memTo c (firstS n) j = some s) ∧ OwnInts wr' w.heap.size x (listed s) ∧ Below w.heap.size w wr') (fun _ i _ => 8 - (intOf i).toNat)
        case atStart => exact ⟨0, firstS n, Nat.zero_le _, rfl, rfl, hown, hB⟩
        case round =>
          obtain ⟨j, s, hj, rfl, hmem, hown2, hB2⟩ := hrel
          have hsz2 := hB2.size
          by_cases hlt2 : j < c.size / 3
          · have hle : 3 * (j + 1) ≤ c.size := by omega
            have hf := entry_facts c j hle
            have hs128 := memTo_lt (firstS_lt hn8) j s hmem.out
            have hok : blkOk (byt c (3 * j)) (byt c (3 * j + 1)) (byt c (3 * j + 2)) = okAt c j := rfl
            have hnone : ∀ d, memTo c (firstS n) (j + 1) = none → j + 1 + d = c.size / 3 → members n c = none := by
              intro d h e
              rw [HM.out, ← e]; exact memTo_none h d
            have HN : Hid (memTo c (firstS n) (j + 1) = none → members n c = none) := fun h => hnone (c.size / 3 - (j + 1)) h (by omega)
            have hst := memTo_succ hmem.out
            have HI := hown2.ints
            have hll : (castL (listed s)).length ≤ 7 := by rw [castL_len]; exact sizeS_le
            have hjB : decide (3 * ((j : Int) + 1) ≤ (c.size : Int)) = true := by simp; omega
            clear hnone
            cases hb : okAt c j with
            | false =>
              have hst' := HN.out (by rw [hst, hb]; simp)
              have HST := hide hst'
              clear hst hst'
              rw [hb] at hok
              have HOKF := hide hok
              have HF := hide hf
              clear hok hf hb
              go_wp2_with (go_at_call 26; refine (block_is false _ _ HF.out.1 (by rw [HF.out.2.1, HF.out.2.2.1, HF.out.2.2.2]; exact HOKF.out)).mono ?_; rintro e w' ⟨rfl, rfl⟩)
              go_ret2
              refine ⟨_, bool_tuple (by rw [HST.out]; rfl), hB2, ?_, fun _ => rfl⟩
              intro s hs; rw [HST.out] at hs; cases hs
            | true =>
              rw [hb] at hok
              have hbd := blkOk_iff.1 hok
              have HOKF := hide hok
              obtain ⟨x, hx⟩ : ∃ x, byt c (3 * j) = x := ⟨_, rfl⟩
              rw [hx] at hbd hst hf
              have hbd' : 48 ≤ x ∧ x ≤ 54 := ⟨hbd.1, hbd.2.1⟩
              have HX := hide hx
              clear hok hbd hx
              have hm := (Walks7.listed (s := s)).mem (n := x - 48) (by omega)
              have hm' : decide (((x : Int) - 48) ∈ castL (listed s)) = s.testBit (x - 48) := by
                rw [← hm, show ((x : Int) - 48) = ((x - 48 : Nat) : Int) by omega]; simp only [mem_castL]
              rw [hb] at hst
              clear hm hb
              obtain ⟨t, hT⟩ : ∃ t, c.extract (3 * (j + 1) - 3) (3 * (j + 1)) = t := ⟨_, rfl⟩
              have HT := hide hT
              rw [hT] at hf
              have hts : t.size = 3 := hf.1
              have h0t : 0 < t.size := by omega
              have e0 : (t[0]'h0t).toNat = x := by rw [byt_eq t 0 h0t, hf.2.1]
              have HF := hide hf
              clear hf
              cases hbit : s.testBit (x - 48) with
              | false =>
                rw [hbit] at hst hm'
                have hst' := HN.out (by rw [hst]; simp)
                have HST := hide hst'
                clear hst hst' hbit
                go_wp2_with (first
                  | (go_at_call 26; refine (block_is true _ _ HF.out.1 (by rw [HF.out.2.1, HF.out.2.2.1, HF.out.2.2.2, ← HX.out]; exact HOKF.out)).mono ?_; rintro e w' ⟨rfl, rfl⟩)
                  | (go_at_call 27; refine (in_is false _ _ _ _ HI (by omega) hm').mono ?_; rintro e w' ⟨rfl, rfl⟩))
                go_ret2
                refine ⟨_, bool_tuple (by rw [HST.out]; rfl), hB2, ?_, fun _ => rfl⟩
                intro s hs; rw [HST.out] at hs; cases hs
              | true =>
                rw [hbit] at hst hm'
                simp only [and_self, if_true] at hst
                clear hbit
                by_cases h33 : (j + 1) % 3 = 0
                · rw [if_pos h33] at hst
                  have hj2 : 2 ≤ j := by omega
                  have HE := hide (epoch_facts c j hle hj2)
                  have HMO := hide (memTo_ok j s hmem.out)
                  have HEO : Hid (∀ k, k < 3 → okAt (c.extract (3 * (j + 1) - 9) (3 * (j + 1))) k = true) := by
                    intro k hk
                    rw [HE.out.2.1 k hk]
                    by_cases e : j - 2 + k = j
                    · rw [e]; exact HOKF.out
                    · exact HMO.out _ (by omega)
                  have HST := hide hst
                  have h33B : ((((j : Int) + 1) % 3) == 0) = true := by simp; omega
                  clear hst
                  go_wp2_with (first
                    | (go_at_call 26; refine (block_is true _ _ HF.out.1 (by rw [HF.out.2.1, HF.out.2.2.1, HF.out.2.2.2, ← HX.out]; exact HOKF.out)).mono ?_; rintro e w' ⟨rfl, rfl⟩)
                    | (go_at_call 27; refine (in_is true _ _ _ _ HI (by omega) hm').mono ?_; rintro e w' ⟨rfl, rfl⟩)
                    | (go_at_call 28; refine (turned_any _ _ s w.heap.size _ _ HE.out.1 HEO.out hs128 rfl hsz2 hown2).mono ?_; rintro e w' ⟨v', rfl, hown3, hB3⟩))
                  have HOW := hide hown3
                  rw [HE.out.2.2] at hown3
                  go_wp2
                  go_roundw
                  case rel => exact ⟨j + 1, _, by omega, by go_num, HST.out, hown3, hB2.trans hB3⟩
                  case measure => simp [intOf]; omega
                · rw [if_neg h33] at hst
                  have HST := hide hst
                  have h33B : ((((j : Int) + 1) % 3) == 0) = false := by simp; omega
                  clear hst
                  go_wp2_with (first
                    | (go_at_call 26; refine (block_is true _ _ HF.out.1 (by rw [HF.out.2.1, HF.out.2.2.1, HF.out.2.2.2, ← HX.out]; exact HOKF.out)).mono ?_; rintro e w' ⟨rfl, rfl⟩)
                    | (go_at_call 27; refine (in_is true _ _ _ _ HI (by omega) hm').mono ?_; rintro e w' ⟨rfl, rfl⟩))
                  go_roundw
                  case rel => exact ⟨j + 1, s, by omega, by go_num, HST.out, hown2, hB2⟩
                  case measure => simp [intOf]; omega
          · have HE : Hid (members n c = some s) := by
              have e : c.size / 3 = j := by omega
              have h := HM.out
              rw [e] at h
              exact h.trans hmem.out
            go_wp2
            go_ret2
            refine ⟨_, bool_tuple (by rw [HE.out]; rfl), hB2, ?_, ?_⟩
            · intro s' hs'; rw [HE.out] at hs'; cases hs'; exact hown2
            · intro h; rw [HE.out] at h; cases h
      · have HM : Hid (members n c = none) := if_neg hok
        by_cases h3 : c.size % 3 = 0
        · have h18 : 18 < c.size := by omega
          clear hok
          go_wp2
          go_ret2
          refine ⟨_, bool_tuple (by rw [HM.out]; rfl), hB, ?_, fun _ => rfl⟩
          intro s hs; rw [HM.out] at hs; cases hs
        · clear hok
          go_wp2
          go_ret2
          refine ⟨_, bool_tuple (by rw [HM.out]; rfl), hB, ?_, fun _ => rfl⟩
          intro s hs; rw [HM.out] at hs; cases hs

/-- the node at a place of the members -/
def leaderOf (s h : Nat) : Nat := (listed s).getD (h % sizeS s) 0
set_option maxHeartbeats 1000000 in
theorem refLeader_any (s base : Nat) (v : Value) (c : ByteArray) (r : Nat) (w : World) (hc : c.size ≤ 18) (hr : r ≤ 9) (hs : 0 < sizeS s) (hv : OwnInts w base v (listed s)) :
    Calls Try.prog 12 #[v, .string c, .int .i64 r] w fun e w' => e = .returned (.int .i64 (leaderOf s (c.size / 3 + 1 + r))) ∧ w' = w := by
  obtain ⟨ao, cap, rfl⟩ := hv.slice
  obtain ⟨g, rfl, hg, hcell⟩ := hv.at hs
  have hlt := Nat.mod_lt (c.size / 3 + 1 + r) hs
  have hck := hcell _ hlt
  have h7 : (listed s).length ≤ 7 := sizeS_le
  obtain ⟨m, hm⟩ : ∃ m, (listed s).length = m := ⟨_, rfl⟩
  have hm' : sizeS s = m := hm
  obtain ⟨L, hL⟩ : ∃ L, (listed s).getD ((c.size / 3 + 1 + r) % sizeS s) 0 = L := ⟨_, rfl⟩
  have HL : Hid (leaderOf s (c.size / 3 + 1 + r) = L) := hL
  rw [hL, hm'] at hck
  rw [hm] at h7 ⊢
  have h0 : 0 < m := by rw [← hm']; exact hs
  clear hcell hlt hL hm hm' hv hs
  have hb0 : (0 : Int) ≤ ((c.size : Int) / 3 + 1 + r) % m := Int.emod_nonneg _ (by omega)
  have hb1 : ((c.size : Int) / 3 + 1 + r) % m < m := Int.emod_lt_of_pos _ (by omega)
  go_enter Try.func12, Try.ntmps12
  go_wp2
  go_ret
  exact ⟨ret_int (by rw [HL.out]), rfl⟩
end Go.Proofs.Ytlkhmldceekdaaa
