import Derived.Test.YtpecfjejfkcolaaPart30
/- The law's encode. -/
namespace Go.Proofs.Ytpecfjejfkcolaa
open Go.RowKit Go.Shelf
set_option linter.unusedVariables false

def beyB : ByteArray := ⟨#[98, 101, 121, 111, 110, 100]⟩
theorem make_room (n : Nat) (hn : n ≤ 2000000) (w : World) : (Instr.makeSlice 37 (.int .i64 ((n : Int) + 8)) (.int .i64 ((n : Int) + 8))).run Try.prog w = .ok (.slice (some ⟨w.heap.size, 0, none⟩) (n + 8) (n + 8)) (w.alloc (.cells (flatV (List.replicate (n + 8) noMv)).toArray 43)) := by
  have h := make_movesL (n + 8) (by omega) w
  rw [Int.natCast_add] at h
  exact h
/-- the beginning of a row of Moves -/
theorem movesAt_front {w : World} {g n cap : Nat} {l r : List Mv} (h : w.heap[g]? = some (.cells (flatV (l ++ r)).toArray 43 (0, 0))) (hln : l.length = n) (hc : ∀ x ∈ l, x.chain.size ≤ maxLen) (hl : l.length ≤ 2000000) : MovesAt w (.slice (some ⟨g, 0, none⟩) n cap) l := by
  refine ⟨⟨_, cap, by rw [hln], fun _ => ⟨g, 0, rfl, lt_of_block h, fun i hi => ?_⟩⟩, hc, hl⟩
  have q := flatV_get (l.take i) (l.drop (i + 1) ++ r) l[i] i (by rw [List.length_take]; omega)
  rw [← List.cons_append, ← List.drop_eq_getElem_cons hi, ← List.append_assoc, List.take_append_drop] at q
  rw [Nat.zero_add]
  exact ⟨box_read h (by simpa using q.1), box_read h (by simpa using q.2.1), box_read h (by simpa using q.2.2.1), box_read h (by simpa using q.2.2.2)⟩
theorem fill_row (l : List Mv) (x : Mv) (i n : Nat) (h1 : n ≤ i) (h2 : i < n + 8) : l ++ List.replicate (i - n) x ++ noMv :: List.replicate (n + 8 - (i + 1)) noMv = l ++ List.replicate (i - n) x ++ List.replicate (n + 8 - i) noMv := by
  rw [← List.replicate_succ, show n + 8 - (i + 1) + 1 = n + 8 - i by omega]
theorem fill_next (l : List Mv) (x : Mv) (i n : Nat) (h1 : n ≤ i) (h2 : i < n + 8) : l ++ List.replicate (i - n) x ++ x :: List.replicate (n + 8 - (i + 1)) noMv = l ++ List.replicate (i + 1 - n) x ++ List.replicate (n + 8 - (i + 1)) noMv := by
  rw [show i + 1 - n = i - n + 1 by omega, List.replicate_succ', List.append_assoc, List.append_assoc, List.append_assoc]; rfl

set_option maxRecDepth 100000 in
set_option maxHeartbeats 8000000 in
theorem lawEnc_any (K base : Nat) (L : List Value) (m : Mg) (v : Value) (w : World) (hk : BookM w K base w.heap.size L) (hL : L.length ≤ 90000000) (h4 : L.length % 4 = 0) (hbK : base ≤ K) (hbw : base ≤ w.heap.size) (hv : MovesAt w v m.moves) (hc : m.chain.size ≤ maxLen) (hn : m.moves.length ≤ 1100000) :
    Calls Try.prog 6 #[.pointer (some ⟨K, 0, none⟩), mgV m v] w (LawPost K base L w) := by
  obtain ⟨t, er, he⟩ := encRes_two m
  have hpe := fun (W : World) (u : Value) (hu : MovesAt W u m.moves) => encode_is t er m u W hu hc he
  have hre := fun (W : World) (u : Value) (hu : MovesAt W u m.moves) => refEnc_any m u W hu hc
  rw [he] at hre
  clear he
  obtain ⟨k, f, h, r, c, p, b, l⟩ := m
  dsimp only at hv hc hn hpe hre
  obtain ⟨n, hln⟩ : ∃ n, l.length = n := ⟨_, rfl⟩
  rw [hln] at hn
  have hchs : ∀ x ∈ l, x.chain.size ≤ maxLen := hv.2.1
  have HCHS := hide hchs
  obtain ⟨ao, cap, rfl, hsrc⟩ := hv.open'
  rw [hln] at hv ⊢
  have HPE := hide hpe
  have HRE := hide hre
  have HK := hide hk
  have H4 := hide h4
  have HV := hide hv
  have HLN := hide hln
  have HA := World.alloc_heap_new w (.cells #[.int .i64 k, .int .i64 f, .int .i64 h, .int .i64 r, .string c, .int .i64 p, .int .i64 b, .slice ao n cap] 39 (0, 0))
  have HA1 := box_alloc (o' := .cells (flatV (List.replicate (n + 8) noMv)).toArray 43) HA
  have HG1 : ((w.alloc (.cells #[.int .i64 k, .int .i64 f, .int .i64 h, .int .i64 r, .string c, .int .i64 p, .int .i64 b, .slice ao n cap] 39)).alloc (.cells (flatV (List.replicate (n + 8) noMv)).toArray 43)).heap[w.heap.size + 1]? = some (.cells (flatV (List.replicate (n + 8) noMv)).toArray 43 (0, 0)) := by
    have := World.alloc_heap_new (w.alloc (.cells #[.int .i64 k, .int .i64 f, .int .i64 h, .int .i64 r, .string c, .int .i64 p, .int .i64 b, .slice ao n cap] 39)) (.cells (flatV (List.replicate (n + 8) noMv)).toArray 43 (0, 0))
    rw [World.size_alloc] at this
    exact this
  have hB1 : Below w.heap.size w ((w.alloc (.cells #[.int .i64 k, .int .i64 f, .int .i64 h, .int .i64 r, .string c, .int .i64 p, .int .i64 b, .slice ao n cap] 39)).alloc (.cells (flatV (List.replicate (n + 8) noMv)).toArray 43)) := ((Below.refl _ w).alloc (Nat.le_refl _) _).alloc (by simp) _
  have hbk1 := hk.below hB1
  have hat1 := hv.below hB1
  have hsr1 : ∀ a, ao = some a → ∀ j u, (flatV l)[j]? = some u → ((w.alloc (.cells #[.int .i64 k, .int .i64 f, .int .i64 h, .int .i64 r, .string c, .int .i64 p, .int .i64 b, .slice ao n cap] 39)).alloc (.cells (flatV (List.replicate (n + 8) noMv)).toArray 43)).cell? (a.add j) = some u := by
    intro a ha j u hu
    have hj : 0 < n := by
      have := (List.getElem?_eq_some_iff.1 hu).1
      rw [flatV_length, hln] at this
      omega
    obtain ⟨ao', cap', e, hx⟩ := hat1.open'
    injection e with e1 e2 e3
    obtain ⟨bb, off, e4, _, hx2⟩ := hx (by omega)
    rw [← e1, ha] at e4
    cases e4
    exact moves_src hx2 j u hu
  have hnone : ao = none → n = 0 := by
    intro e
    by_cases h0 : 0 < n
    · obtain ⟨bb, off, e4, _⟩ := hsrc (by omega)
      rw [e] at e4; cases e4
    · omega
  have hmk := make_room n (by omega) (w.alloc (.cells #[.int .i64 k, .int .i64 f, .int .i64 h, .int .i64 r, .string c, .int .i64 p, .int .i64 b, .slice ao n cap] 39))
  have hcp := run_copy_M ((w.alloc (.cells #[.int .i64 k, .int .i64 f, .int .i64 h, .int .i64 r, .string c, .int .i64 p, .int .i64 b, .slice ao n cap] 39)).alloc (.cells (flatV (List.replicate (n + 8) noMv)).toArray 43)) 3 (w.heap.size + 1) n 8 ao cap l hln HG1 hnone hsr1
  obtain ⟨w2, hw2⟩ : ∃ w2, ((w.alloc (.cells #[.int .i64 k, .int .i64 f, .int .i64 h, .int .i64 r, .string c, .int .i64 p, .int .i64 b, .slice ao n cap] 39)).alloc (.cells (flatV (List.replicate (n + 8) noMv)).toArray 43)).setRow (w.heap.size + 1) (flatV (l ++ List.replicate 8 noMv)).toArray = w2 := ⟨_, rfl⟩
  have hgr2 : ((w.alloc (.cells #[.int .i64 k, .int .i64 f, .int .i64 h, .int .i64 r, .string c, .int .i64 p, .int .i64 b, .slice ao n cap] 39)).alloc (.cells (flatV (List.replicate (n + 8) noMv)).toArray 43)).grownBy w2 (some (w.heap.size + 1)) := by
    rw [← hw2]
    exact ⟨rfl, rfl, rfl, by simp [World.setRow], fun k hk hne => setRow_other _ _ k _ (fun e => hne (by rw [e]))⟩
  have hG2 : Hid (w2.heap[w.heap.size + 1]? = some (.cells (flatV (l ++ List.replicate 8 noMv)).toArray 43 (0, 0))) := by
    show _ = _
    rw [← hw2]
    exact setRow_heap _ _ _ _ _ _ HG1
  have hA2 := hide (heap_grown hgr2 HA1 (by omega))
  have hBK2 := hide (hbk1.grown HG1 (by omega) hgr2)
  have hB2 := hide (Below.grown hB1 hgr2 (by simp; omega) (fun k hk => by injection hk with hk; omega))
  rw [hw2] at hcp
  have HHA1 := hide HA1
  have HHG1 := hide HG1
  have HB1 := hide hB1
  have HBK1 := hide hbk1
  have HSR1 := hide hsr1
  have HNONE := hide hnone
  clear hgr2 hw2 HA HA1 HG1 hB1 hbk1 hat1 hsr1 hnone hpe hre hk h4 hv hln hchs hsrc
  go_enter Try.func6, Try.ntmps6
  go_wp2
  clear hmk hcp
  go_loopw [7] (fun ii wr => ∃ (i : Nat), n ≤ i ∧ i ≤ n + 8 ∧ ii = .int .i64 (i : Int) ∧ Hid (wr.heap[w.heap.size + 1]? = some (.cells (flatV (l ++ List.replicate (i - n) (mkMv beyB) ++ List.replicate (n + 8 - i) noMv)).toArray 43 (0, 0))) ∧ Hid (wr.heap[w.heap.size]? = some (.cells #[.int .i64 k, .int .i64 f, .int .i64 h, .int .i64 r, .string c, .int .i64 p, .int .i64 b, .slice ao n cap] 39 (0, 0))) ∧ Hid (BookM wr K base w.heap.size L) ∧ Hid (Below w.heap.size w wr)) (fun i _ => n + 8 - (intOf i).toNat)
  case atStart => exact ⟨n, by omega, by omega, rfl, by
      have e := hG2.out
      rw [Nat.sub_self, show n + 8 - n = 8 by omega, List.replicate_zero, List.append_nil]; exact e, hA2, hBK2, hB2⟩
  case round =>
    obtain ⟨i, hi1, hi2, rfl, hG, hA, hBK, hB⟩ := hrel
    by_cases hlt : i < n + 8
    · have hG0 := hG.out
      rw [← fill_row l (mkMv beyB) i n hi1 hlt] at hG0
      have hlen : (l ++ List.replicate (i - n) (mkMv beyB)).length = i := by rw [List.length_append, HLN.out, List.length_replicate]; omega
      have q := flatV_get (l ++ List.replicate (i - n) (mkMv beyB)) (List.replicate (n + 8 - (i + 1)) noMv) noMv i hlen
      have q0 := box_read (i := i * 4) hG0 (by simpa using q.1)
      have q1 := box_read (i := i * 4 + 1) hG0 (by simpa using q.2.1)
      have q2 := box_read (i := i * 4 + 2) hG0 (by simpa using q.2.2.1)
      have q3 := box_read (i := i * 4 + 3) hG0 (by simpa using q.2.2.2)
      have e0 := free_of (j := i * 4) hG0
      have e1 := free_of (j := i * 4 + 1) hG0
      have e2 := free_of (j := i * 4 + 2) hG0
      have e3 := free_of (j := i * 4 + 3) hG0
      have st := store_move (x := mkMv beyB) hG0 hlen
      rw [fill_next l (mkMv beyB) i n hi1 hlt] at st
      have ST := hide st
      have hgr := grown_four wr (w.heap.size + 1) (i * 4) (i * 4 + 1) (i * 4 + 2) (i * 4 + 3) (.int .i64 (mkMv beyB).node) (.int .i64 (mkMv beyB).prep) (.string (mkMv beyB).chain) (.int .i64 (mkMv beyB).by')
      have HBKN := hide (hBK.out.grown hG0 (by omega) hgr)
      have HAN := hide (heap_grown hgr hA.out (by omega))
      have HBN := hide (below_four hB.out (g := w.heap.size + 1) (by omega) (i * 4) (i * 4 + 1) (i * 4 + 2) (i * 4 + 3) (.int .i64 (mkMv beyB).node) (.int .i64 (mkMv beyB).prep) (.string (mkMv beyB).chain) (.int .i64 (mkMv beyB).by'))
      have j0 : (0 : Int) ≤ (i : Int) := by omega
      have j1 : (i : Int) < (n : Int) + 8 := by omega
      clear q hG0 st hgr hlen
      go_wp2
      go_roundw
      case rel => exact ⟨i + 1, by omega, by omega, by go_num, ST, HAN, HBKN, HBN⟩
      case measure => simp [intOf]; omega
    · have hie : i = n + 8 := by omega
      have hG0 := hG.out
      rw [hie, show n + 8 - n = 8 by omega, Nat.sub_self, List.replicate_zero, List.append_nil] at hG0
      have HG := hide hG0
      have z0 := box_read (i := 0) hA.out rfl
      have z1 := box_read (i := 1) hA.out rfl
      have z2 := box_read (i := 2) hA.out rfl
      have z3 := box_read (i := 3) hA.out rfl
      have z4 := box_read (i := 4) hA.out rfl
      have z5 := box_read (i := 5) hA.out rfl
      have z6 := box_read (i := 6) hA.out rfl
      have z7 := box_read (i := 7) hA.out rfl
      have j0 : (0 : Int) ≤ (n : Int) := by omega
      have j1 : (n : Int) ≤ (n : Int) + 8 := by omega
      have HX := hide (box_alloc (o' := .cells #[.int .i64 k, .int .i64 f, .int .i64 h, .int .i64 r, .string c, .int .i64 p, .int .i64 b, .slice (some ⟨w.heap.size + 1, 0, none⟩) n (n + 8)] 39) hG0)
      have HXA := hide (box_alloc (o' := .cells #[.int .i64 k, .int .i64 f, .int .i64 h, .int .i64 r, .string c, .int .i64 p, .int .i64 b, .slice (some ⟨w.heap.size + 1, 0, none⟩) n (n + 8)] 39) hA.out)
      have hMV : Hid (MovesAt (wr.alloc (.cells #[.int .i64 k, .int .i64 f, .int .i64 h, .int .i64 r, .string c, .int .i64 p, .int .i64 b, .slice (some ⟨w.heap.size + 1, 0, none⟩) n (n + 8)] 39)) (.slice (some ⟨w.heap.size + 1, 0, none⟩) n (n + 8)) l) := movesAt_front HX.out HLN.out HCHS.out (by rw [HLN.out]; omega)
      have hBX : Hid (Below w.heap.size w (wr.alloc (.cells #[.int .i64 k, .int .i64 f, .int .i64 h, .int .i64 r, .string c, .int .i64 p, .int .i64 b, .slice (some ⟨w.heap.size + 1, 0, none⟩) n (n + 8)] 39))) := hB.out.alloc hB.out.size _
      clear hG0 hG hie
      go_wp2_with (first
        | (go_at_call 15; refine (HPE.out _ _ hMV.out).mono ?_; rintro e w3 ⟨rfl, hb3⟩; have A3 := hide ((hb3.block _ (lt_of_block HXA.out)).trans HXA.out); have G3 := hide ((hb3.block _ (lt_of_block HX.out)).trans HX.out); have B3 := hide (hBX.out.trans (hb3.mono hBX.out.size)); have y0 := box_read (i := 0) A3.out rfl; have y1 := box_read (i := 1) A3.out rfl; have y2 := box_read (i := 2) A3.out rfl; have y3 := box_read (i := 3) A3.out rfl; have y4 := box_read (i := 4) A3.out rfl; have y5 := box_read (i := 5) A3.out rfl; have y6 := box_read (i := 6) A3.out rfl; have y7 := box_read (i := 7) A3.out rfl)
        | (go_at_call 16; refine (HRE.out _ _ (HV.out.below B3.out)).mono ?_; rintro e w4 ⟨rfl, hb4⟩; have A4 := hide ((hb4.block _ (lt_of_block A3.out)).trans A3.out); have G4 := hide ((hb4.block _ (lt_of_block G3.out)).trans G3.out); have B4 := hide (B3.out.trans (hb4.mono B3.out.size)); have u7 := box_read (i := 7) A4.out rfl))
      clear z0 z1 z2 z3 z4 z5 z6 z7 y0 y1 y2 y3 y4 y5 y6 y7
      have hat4 := HV.out.below B4.out
      have HAT4 := hide hat4
      have BK4 := hide (HK.out.below B4.out)
      clear hat4
      go_loopw [13] (fun ii wr => ∃ (i d : Nat), i ≤ n + 8 ∧ ii = .int .i64 (i : Int) ∧ wr = w4.drewN d) (fun i _ => n + 8 - (intOf i).toNat)
      case atStart => exact ⟨0, 0, by omega, rfl, rfl⟩
      case round =>
        obtain ⟨i, d, hi, rfl, rfl⟩ := hrel
        by_cases hlt8 : i < n + 8
        · have i0 : (0 : Int) ≤ (i : Int) := by omega
          have i8 : (i : Int) < (n : Int) + 8 := by omega
          by_cases hin : i < n
          · obtain ⟨ao', cap', e, hx⟩ := HAT4.out.open'
            injection e with e1 e2 e3
            obtain ⟨bb, off, e4, _, hx2⟩ := hx (by rw [HLN.out]; omega)
            rw [← e1] at e4
            subst e4
            have hil : i < l.length := by rw [HLN.out]; exact hin
            obtain ⟨d0, d1, d2, d3⟩ := hx2 i hil
            have q := flatV_get (l.take i) (l.drop (i + 1) ++ List.replicate 8 (mkMv beyB)) l[i] i (by rw [List.length_take]; omega)
            rw [← List.cons_append, ← List.drop_eq_getElem_cons hil, ← List.append_assoc, List.take_append_drop] at q
            have q0 := box_read (i := i * 4) G4.out (by simpa using q.1)
            have q1 := box_read (i := i * 4 + 1) G4.out (by simpa using q.2.1)
            have q2 := box_read (i := i * 4 + 2) G4.out (by simpa using q.2.2.1)
            have q3 := box_read (i := i * 4 + 3) G4.out (by simpa using q.2.2.2)
            obtain ⟨x, hxx⟩ : ∃ x, l[i] = x := ⟨_, rfl⟩
            rw [hxx] at d0 d1 d2 d3 q0 q1 q2 q3
            obtain ⟨xn, xp, xc, xb⟩ := x
            dsimp only at d0 d1 d2 d3 q0 q1 q2 q3
            clear hxx q hx hx2 e1 e2 e3 hil
            have i1 : decide ((i : Int) < (n : Int)) = true := by simp; omega
            have i2 : decide ((n : Int) ≤ (i : Int)) = false := by simp; omega
            have i4 : decide (n ≤ i) = false := by simp; omega
            have i5 : decide (i < n) = true := by simp; omega
            have i3 : (i : Int) < (n : Int) := by omega
            go_wp2
            go_quiet (fail)
            go_wp2
            go_roundw
            case rel => exact ⟨i + 1, d + nq, by omega, by go_num, rfl⟩
            case measure => simp [intOf]; omega
          · have q := flatV_get (l ++ List.replicate (i - n) (mkMv beyB)) (List.replicate (8 - (i - n + 1)) (mkMv beyB)) (mkMv beyB) i (by rw [List.length_append, HLN.out, List.length_replicate]; omega)
            rw [List.append_assoc, ← rep_split (mkMv beyB) (show i - n < 8 by omega)] at q
            have q0 := box_read (i := i * 4) G4.out (by simpa using q.1)
            have q1 := box_read (i := i * 4 + 1) G4.out (by simpa using q.2.1)
            have q2 := box_read (i := i * 4 + 2) G4.out (by simpa using q.2.2.1)
            have q3 := box_read (i := i * 4 + 3) G4.out (by simpa using q.2.2.2)
            have q2' : w4.cell? ⟨w.heap.size + 1, i * 4 + 2, none⟩ = some (.string ⟨#[98, 101, 121, 111, 110, 100]⟩) := q2
            have q0' : w4.cell? ⟨w.heap.size + 1, i * 4, none⟩ = some (.int .i64 0) := q0
            have q1' : w4.cell? ⟨w.heap.size + 1, i * 4 + 1, none⟩ = some (.int .i64 0) := q1
            have q3' : w4.cell? ⟨w.heap.size + 1, i * 4 + 3, none⟩ = some (.int .i64 0) := q3
            clear q q0 q1 q2 q3
            have i1 : decide ((i : Int) < (n : Int)) = false := by simp; omega
            have i2 : decide ((n : Int) ≤ (i : Int)) = true := by simp; omega
            have i4 : decide (n ≤ i) = true := by simp; omega
            have i5 : decide (i < n) = false := by simp; omega
            go_wp2
            go_quiet (fail)
            go_wp2
            go_roundw
            case rel => exact ⟨i + 1, d + nq, by omega, by go_num, rfl⟩
            case measure => simp [intOf]; omega
        · have hBd := hide (B4.out.trans ((below_drewN' w4 d).mono B4.out.size))
          have bkd := hide (BK4.out.below (below_drewN' w4 d))
          have hfr : Hid (FreshM (w4.drewN d) w.heap.size (.slice (some ⟨w.heap.size + 1, 0, none⟩) (n + 8) (n + 8)) (n + 8) (l ++ List.replicate 8 (mkMv beyB))) := .inr ⟨w.heap.size + 1, rfl, by omega, ((below_drewN' w4 d).block _ (lt_of_block G4.out)).trans G4.out, by rw [List.length_append, HLN.out, List.length_replicate]⟩
          go_wp2_with (go_at_call 17; refine (keepMoves_any K base w.heap.size (n + 8) L _ _ _ bkd.out hfr.out (by omega) (by omega) H4.out hbK hbw).mono ?_; rintro e w5 ⟨rfl, hb5, L', bk5, hl5⟩; have BK5 := hide bk5; have HL5 := hide hl5; clear bk5 hl5)
          go_ret
          exact ⟨rfl, (hBd.out.mono hbw).trans hb5, L', BK5.out, HL5.out⟩
end Go.Proofs.Ytpecfjejfkcolaa
