import Derived.Test.YtpecfjejfkcolaaPart29
/- The law's keepMoves, walked. -/
namespace Go.Proofs.Ytpecfjejfkcolaa
open Go.RowKit Go.Shelf
set_option linter.unusedVariables false

set_option maxRecDepth 100000 in
set_option maxHeartbeats 4000000 in
theorem keepMoves_any (K base top n : Nat) (L : List Value) (l : List Mv) (v : Value) (w : World) (hk : BookM w K base top L) (hv : FreshM w top v n l) (hn : n ≤ 2500000) (hL : L.length ≤ 100000000) (h4 : L.length % 4 = 0) (hbK : base ≤ K) (hbt : base ≤ top) :
    Calls Try.prog 17 #[.pointer (some ⟨K, 0, none⟩), v] w fun e w' => e = .returned (.tuple #[]) ∧ Below base w w' ∧ ∃ L', BookM w' K base w'.heap.size L' ∧ L'.length = L.length + 4 := by
  obtain ⟨i0, hi, hz0, hz1, hz2⟩ := info_parts Try.infoMv
  obtain ⟨i5, hi5, hy0, hy1, hy2⟩ := info_parts Try.infoMvs
  obtain ⟨ao, rfl, hao, hlen⟩ := hv.slice
  obtain ⟨c, hc⟩ : ∃ c, markB L.length = c := ⟨_, rfl⟩
  have HC := hide hc
  have HV := hide hv
  have HAO := hide hao
  have HLEN := hide hlen
  obtain ⟨ko, kc, ck0, ck, ck2, ck3⟩ := hk.open'
  have HK := hide hk
  have htop := hk.top_le
  have H4 := hide h4
  clear hv hao hk h4 hc hlen ck0 ck2 ck3
  go_enter Try.func17, Try.ntmps17
  go_wp2_with (go_at_call 21; refine (mark_is c _ L.length _ rfl (by omega) HC.out).mono ?_; rintro e w1 ⟨rfl, hb1⟩)
  clear ck
  have hx1 := World.alloc_heap_new w1 (.cells #[.int .i64 0, .int .i64 0, .string c, .int .i64 0] 43 (0, 0))
  have hbW : Below w.heap.size w (w1.alloc (.cells #[.int .i64 0, .int .i64 0, .string c, .int .i64 0] 43)) := hb1.alloc hb1.size _
  have hsX := hb1.size
  obtain ⟨X, hX⟩ : ∃ X, w1.heap.size = X := ⟨_, rfl⟩
  rw [hX] at hx1 hsX ⊢
  obtain ⟨W, hW⟩ : ∃ W, w1.alloc (.cells #[.int .i64 0, .int .i64 0, .string c, .int .i64 0] 43) = W := ⟨_, rfl⟩
  rw [hW] at hx1 hbW ⊢
  have HX1 := hide hx1
  have HBW := hide hbW
  have HXX := hide hX
  have HWW := hide hW
  have hrow0 : Hid (∀ g, ao = some ⟨g, 0, none⟩ → W.heap[g]? = some (.cells (flatV l).toArray 43 (0, 0)) ∧ g < w.heap.size ∧ top ≤ g) := by
    intro g hg
    rcases HV.out with ⟨e, _, _⟩ | ⟨g', e, ht, hh, _⟩
    · injection e with e1 _ _; rw [hg] at e1; cases e1
    · injection e with e1 _ _
      rw [hg] at e1
      cases e1
      exact ⟨(hbW.block g (lt_of_block hh)).trans hh, lt_of_block hh, ht⟩
  have hbkW : Hid (BookM W K base top L) := HK.out.below hbW
  have hbb : Hid (Below base w W) := hbW.mono (by omega)
  clear hx1 hbW hX hW hb1
  go_loopw [5] (fun i wr => ∃ (k : Nat), k ≤ n ∧ i = .int .i64 (k : Int) ∧ Hid (wr.heap[X]? = some (.cells #[.int .i64 0, .int .i64 0, .string c, .int .i64 0] 43 (0, 0))) ∧ Hid (∀ g, ao = some ⟨g, 0, none⟩ → wr.heap[g]? = some (.cells (flatV (List.replicate k (mkMv c) ++ l.drop k)).toArray 43 (0, 0)) ∧ g < w.heap.size ∧ top ≤ g) ∧ Hid (BookM wr K base top L) ∧ Hid (Below base w wr)) (fun i _ => n - (intOf i).toNat)
  case atStart => exact ⟨0, by omega, rfl, HX1, hrow0, hbkW, hbb⟩
  case round =>
    obtain ⟨k, hkn, rfl, hx, hrow, hbk, hB⟩ := hrel
    have x0 := box_read (i := 0) hx.out rfl
    have x1 := box_read (i := 1) hx.out rfl
    have x2 := box_read (i := 2) hx.out rfl
    have x3 := box_read (i := 3) hx.out rfl
    by_cases hlt : k < n
    · obtain ⟨g, e1⟩ : ∃ g, ao = some ⟨g, 0, none⟩ := by
        rcases HV.out with ⟨_, e2, _⟩ | ⟨g, e, _⟩
        · omega
        · injection e with e1 _ _; exact ⟨g, e1⟩
      subst e1
      obtain ⟨hg0, hgw, hgt⟩ := hrow.out g rfl
      have hkl : k < l.length := by rw [HLEN.out]; exact hlt
      obtain ⟨y, hy⟩ : ∃ y, l.drop k = y :: l.drop (k + 1) := ⟨_, List.drop_eq_getElem_cons hkl⟩
      rw [hy] at hg0
      have q := flatV_get (List.replicate k (mkMv c)) (l.drop (k + 1)) y k (by simp)
      have q0 := box_read (i := k * 4) hg0 (by simpa using q.1)
      have q1 := box_read (i := k * 4 + 1) hg0 (by simpa using q.2.1)
      have q2 := box_read (i := k * 4 + 2) hg0 (by simpa using q.2.2.1)
      have q3 := box_read (i := k * 4 + 3) hg0 (by simpa using q.2.2.2)
      have e0 := free_of (j := k * 4) hg0
      have e1 := free_of (j := k * 4 + 1) hg0
      have e2 := free_of (j := k * 4 + 2) hg0
      have e3 := free_of (j := k * 4 + 3) hg0
      have st := store_move (x := mkMv c) hg0 (show (List.replicate k (mkMv c)).length = k by simp)
      rw [fill_step hkl] at st
      have ST := hide st
      have hgr := grown_four wr g (k * 4) (k * 4 + 1) (k * 4 + 2) (k * 4 + 3) (.int .i64 (mkMv c).node) (.int .i64 (mkMv c).prep) (.string (mkMv c).chain) (.int .i64 (mkMv c).by')
      have HBK := hide (hbk.out.grown hg0 hgt hgr)
      have HXN := hide (heap_grown hgr hx.out (by omega))
      have HBN := hide (below_four hB.out (g := g) (by omega) (k * 4) (k * 4 + 1) (k * 4 + 2) (k * 4 + 3) (.int .i64 (mkMv c).node) (.int .i64 (mkMv c).prep) (.string (mkMv c).chain) (.int .i64 (mkMv c).by'))
      have j0 : (0 : Int) ≤ (k : Int) := by omega
      have j1 : (k : Int) < (n : Int) := by omega
      clear q hg0 st hgr hkl hy
      go_wp2
      go_roundw
      case rel => exact ⟨k + 1, by omega, by go_num, HXN, fun g' hg' => by
        injection hg' with hg'
        injection hg' with hg' _ _
        subst hg'
        exact ⟨ST.out, hgw, hgt⟩, HBK, HBN⟩
      case measure => simp [intOf]; omega
    · have hkn' : k = n := by omega
      have hown : wr.ownsRow 0 43 4 (.slice ao n n) n (flatV (List.replicate n (mkMv c))) := by
        rcases HV.out with ⟨e, e2, _⟩ | ⟨g, e, _⟩
        · rw [e, e2]; exact World.ownsRow_nil _ _ _ _
        · injection e with e1 _ _
          subst e1
          have h := (hrow.out g rfl).1
          rw [hkn', List.drop_eq_nil_iff.2 (by rw [HLEN.out]; exact Nat.le_refl _), List.append_nil] at h
          exact rowM_of h (by simp) (by omega)
      have hlo : (flatV (List.replicate n (mkMv c))).length = n * 4 := by rw [flatV_length, List.length_replicate]
      have HOWN := hide hown
      have HLO := hide hlo
      have hsz := hB.out.size
      have hwt := hbk.out.top_le
      clear hown hlo hkn'
      go_wp2_with (first
        | (at_builtin; refine wpList_append_grows _ rfl (.tmp 26) (.tmp 28) 37 rfl 43 i0 (.agg zeroMv) 4 40 Try.underlying37 hi hz0 hz1 hz2 rfl (by decide) ao n n (flatV (List.replicate n (mkMv c))) rfl (fun h => ⟨HAO.out h, HAO.out h⟩) HLO.out (holds_ofM (World.ownsRow.alloc HOWN.out _)) ⟨_, 0, none⟩ 1 1 [.int .i64 0, .int .i64 0, .string c, .int .i64 0] rfl rfl (cell_list_new _ _ _) (by simp [Value.oneCell']) (by omega) (by unfold maxLen; omega) (by omega) ?_; intro v1 w2 hown1 hgrow1; obtain ⟨g1, c1, rfl⟩ := ownsRow_succ hown1; have HO1 := hide hown1; have bl1 := below_grows hgrow1; have o1 := hide (ownsRow_below HOWN.out bl1); have hx2 := (bl1.block X (lt_of_block hx.out)).trans hx.out; have HX2 := hide hx2; have a0 := box_read (i := 0) hx2 rfl; have a1 := box_read (i := 1) hx2 rfl; have a2 := box_read (i := 2) hx2 rfl; have a3 := box_read (i := 3) hx2 rfl; clear hx2 hown1 hgrow1)
        | (at_builtin; refine wpList_append_grows _ rfl (.tmp 30) (.tmp 33) 37 rfl 43 i0 (.agg zeroMv) 4 40 Try.underlying37 hi hz0 hz1 hz2 rfl (by decide) ao n n (flatV (List.replicate n (mkMv c))) rfl (fun h => ⟨HAO.out h, HAO.out h⟩) HLO.out (holds_ofM (World.ownsRow.alloc o1.out _)) ⟨_, 0, none⟩ 2 2 [.int .i64 0, .int .i64 0, .string c, .int .i64 0, .int .i64 0, .int .i64 0, .string c, .int .i64 0] rfl rfl (cell_list_new _ _ _) (by simp [Value.oneCell']) (by omega) (by unfold maxLen; omega) (by omega) ?_; intro v2 w3 hown2 hgrow2; obtain ⟨g2, c2, rfl⟩ := ownsRow_succ hown2; have HO2 := hide hown2; have bl2 := below_grows hgrow2; have o2 := hide (ownsRow_below o1.out bl2); have hx3 := (bl2.block X (lt_of_block HX2.out)).trans HX2.out; have HX3 := hide hx3; have b0 := box_read (i := 0) hx3 rfl; have b1 := box_read (i := 1) hx3 rfl; have b2 := box_read (i := 2) hx3 rfl; have b3 := box_read (i := 3) hx3 rfl; clear hx3 hown2 hgrow2)
        | (at_builtin; refine wpList_append_grows _ rfl (.tmp 35) (.tmp 39) 37 rfl 43 i0 (.agg zeroMv) 4 40 Try.underlying37 hi hz0 hz1 hz2 rfl (by decide) ao n n (flatV (List.replicate n (mkMv c))) rfl (fun h => ⟨HAO.out h, HAO.out h⟩) HLO.out (holds_ofM (World.ownsRow.alloc o2.out _)) ⟨_, 0, none⟩ 3 3 [.int .i64 0, .int .i64 0, .string c, .int .i64 0, .int .i64 0, .int .i64 0, .string c, .int .i64 0, .int .i64 0, .int .i64 0, .string c, .int .i64 0] rfl rfl (cell_list_new _ _ _) (by simp [Value.oneCell']) (by omega) (by unfold maxLen; omega) (by omega) ?_; intro v3 w4 hown3 hgrow3; obtain ⟨g3, c3, rfl⟩ := ownsRow_succ hown3; have HO3 := hide hown3; have bl3 := below_grows hgrow3; have o3 := hide (ownsRow_below o2.out bl3); have bk3 := ((hbk.out.below bl1).below bl2).below bl3; obtain ⟨kv3, hkb3, hkr3⟩ := bk3.book; obtain ⟨ko3, kc3, rfl, _⟩ := row_slice hkr3; have ck3 := (cells_of_three hkb3).2.1; have HBK3 := hide bk3; have HKB3 := hide hkb3; have HKR3 := hide hkr3; clear hown3 hgrow3 bk3 hkb3 hkr3)
        | (at_builtin; refine wpList_append_own _ rfl (.tmp 45) (.tmp 50) 25 rfl base 37 i5 (.slice none 0 0) 1 24 Try.underlying25 hi5 hy0 hy1 hy2 rfl (by decide) _ _ _ rfl (World.ownsRow.alloc HKR3.out _) ⟨_, 0, none⟩ 4 4 [.slice ao n n, .slice (some ⟨g1, 0, none⟩) (n + 1) c1, .slice (some ⟨g2, 0, none⟩) (n + 2) c2, .slice (some ⟨g3, 0, none⟩) (n + 3) c3] rfl rfl (cell_list_new _ _ _) (by simp [Value.oneCell']) (by unfold maxLen; omega) (by omega) (by have h1 := bl1.size; have h2 := bl2.size; have h3 := bl3.size; simp; omega) ?_; intro v4 w5 hown4 hgrow4 _; obtain ⟨g4, c4, rfl⟩ := ownsRow_succ hown4; have hK4 := bookM_grown HKB3.out HKR3.out (by decide) hgrow4; have ck4 := (cells_of_three hK4).2.1; have cf4 := free_of (j := 1) hK4))
      go_end0
      have s1 := bl1.size
      have s2 := bl2.size
      have s3 := bl3.size
      have b13 : Below w2.heap.size w2 w4 := bl2.trans (bl3.mono s2)
      have m0 : MarkedM w4 w4.heap.size (.slice ao n n) c := ⟨n, o3.out, by omega, fun g hg => (o3.out.lt g hg).2⟩
      have m1 : MarkedM w4 w4.heap.size (.slice (some ⟨g1, 0, none⟩) (n + 1) c1) c := markedM_of rfl (ownsRow_below HO1.out b13) (by omega)
      have m2 : MarkedM w4 w4.heap.size (.slice (some ⟨g2, 0, none⟩) (n + 2) c2) c := markedM_of rfl (ownsRow_below HO2.out bl3) (by omega)
      have m3 : MarkedM w4 w4.heap.size (.slice (some ⟨g3, 0, none⟩) (n + 3) c3) c := markedM_of rfl HO3.out (by omega)
      rw [← HC.out] at m0 m1 m2 m3
      have hP := HBK3.out.push HKB3.out HKR3.out (N := [.slice ao n n, .slice (some ⟨g1, 0, none⟩) (n + 1) c1, .slice (some ⟨g2, 0, none⟩) (n + 2) c2, .slice (some ⟨g3, 0, none⟩) (n + 3) c3]) (by
        intro i hi
        match i, hi with
        | 0, _ => rw [markM_four H4.out (by omega)]; exact m0
        | 1, _ => rw [markM_four H4.out (by omega)]; exact m1
        | 2, _ => rw [markM_four H4.out (by omega)]; exact m2
        | 3, _ => rw [markM_four H4.out (by omega)]; exact m3
        | i + 4, hi => exact absurd hi (by simp)) hown4 hgrow4
      have bw3 : Below base w w4 := ((hB.out.trans (bl1.mono (by omega))).trans (bl2.mono (by omega))).trans (bl3.mono (by omega))
      have bw4 : Below base w w5 := (bw3.alloc (by omega) _).grown hgrow4 (by simp; omega) (fun k hk => (HKR3.out.lt k hk).1)
      exact ⟨rfl, bw4.setCell (p := ⟨K, 1, none⟩) hbK _, _, hP, by simp⟩
end Go.Proofs.Ytpecfjejfkcolaa

/- The law's decode. -/
namespace Go.Proofs.Ytpecfjejfkcolaa
open Go.RowKit Go.Shelf
set_option linter.unusedVariables false

/-- behind a call of the law's: the list is put into the book -/
def LawPost (K base : Nat) (L : List Value) (w : World) (e : Ending) (w' : World) : Prop :=
  e = .returned (.bool true) ∧ Below base w w' ∧ ∃ L', BookM w' K base w'.heap.size L' ∧ L'.length = L.length + 4
theorem refDec_no (s : ByteArray) (w : World) (hs : s.size ≤ maxLen) (h : okMsg s = false) : Calls Try.prog 19 #[.string s] w fun e w' => e = .returned (.tuple #[noMsg, .int .i64 2]) ∧ Below w.heap.size w w' := by
  refine (refDecode_any s w hs).mono ?_
  rintro e w' ⟨⟨h1, _⟩ | ⟨_, h2⟩, hb⟩
  · rw [h] at h1; cases h1
  · exact ⟨h2, hb⟩
theorem refDec_ok (s : ByteArray) (m : Mg) (w : World) (hs : s.size ≤ maxLen) (h : okMsg s = true) (hm : posMsg s = m) : Calls Try.prog 19 #[.string s] w fun e w' => ∃ v, e = .returned (.tuple #[mgV m v, .int .i64 0]) ∧ MovesAt w' v m.moves ∧ Below w.heap.size w w' := by
  refine (refDecode_any s w hs).mono ?_
  rintro e w' ⟨⟨_, v, h1, h2⟩ | ⟨h1, _⟩, hb⟩
  · rw [hm] at h1 h2; exact ⟨v, h1, h2, hb⟩
  · rw [h] at h1; cases h1
theorem movesAt_nil (w : World) : MovesAt w (.slice none 0 0) [] := ⟨⟨none, 0, rfl, fun h => absurd h (by simp)⟩, (fun x hx => absurd hx (by simp)), Nat.zero_le _⟩
theorem MovesRow.fresh {w w' : World} {ao : Option Addr} {ln : Nat} {l : List Mv} (h : MovesRow w w' (.slice ao ln ln) l) : FreshM w' w.heap.size (.slice ao ln ln) ln l ∧ l.length = ln := by
  rcases h with ⟨rfl, e⟩ | ⟨g, e, hg, hh⟩
  · injection e with e1 e2 e3
    subst e1 e2
    exact ⟨.inl ⟨rfl, rfl, rfl⟩, rfl⟩
  · injection e with e1 e2 e3
    subst e1
    subst e2
    exact ⟨.inr ⟨g, rfl, hg, hh, rfl⟩, rfl⟩
theorem MovesRow.atAny {w w' : World} {v : Value} {l : List Mv} (h : MovesRow w w' v l) (h1 : ∀ x ∈ l, x.chain.size ≤ maxLen) (h2 : l.length ≤ 2000000) : MovesAt w' v l := by
  rcases h with ⟨rfl, rfl⟩ | ⟨g, rfl, hg, hh⟩
  · exact movesAt_nil _
  · exact movesAt_row (rowM_of hh rfl (by omega)) rfl h1 h2

set_option maxRecDepth 100000 in
set_option maxHeartbeats 4000000 in
theorem lawDec_no (K base : Nat) (L : List Value) (s : ByteArray) (w : World) (hk : BookM w K base w.heap.size L) (hL : L.length ≤ 90000000) (h4 : L.length % 4 = 0) (hbK : base ≤ K) (hbw : base ≤ w.heap.size) (hs : s.size ≤ maxLen) (h : okMsg s = false) :
    Calls Try.prog 7 #[.pointer (some ⟨K, 0, none⟩), .string s] w (LawPost K base L w) := by
  have HK := hide hk
  have H := hide h
  have H4 := hide h4
  clear hk h h4
  go_enter Try.func7, Try.ntmps7
  go_wp2_with (first
    | (go_at_call 18; refine (decode_no s _ hs H.out).mono ?_; rintro e w1 ⟨rfl, hb1⟩; have X1 := hide (World.alloc_heap_new w1 (.cells #[.int .i64 0, .int .i64 0, .int .i64 0, .int .i64 0, .string ⟨#[]⟩, .int .i64 0, .int .i64 0, .slice none 0 0] 39 (0, 0))))
    | (go_at_call 19; refine (refDec_no s _ hs H.out).mono ?_; rintro e w2 ⟨rfl, hb2⟩; have X2 := hide (box_alloc (o' := .cells #[.int .i64 0, .int .i64 0, .int .i64 0, .int .i64 0, .string ⟨#[]⟩, .int .i64 0, .int .i64 0, .slice none 0 0] 39) ((hb2.block _ (lt_of_block X1.out)).trans X1.out)); have x0 := box_read (i := 0) X2.out rfl; have x1 := box_read (i := 1) X2.out rfl; have x2 := box_read (i := 2) X2.out rfl; have x3 := box_read (i := 3) X2.out rfl; have x4 := box_read (i := 4) X2.out rfl; have x5 := box_read (i := 5) X2.out rfl; have x6 := box_read (i := 6) X2.out rfl; have x7 := box_read (i := 7) X2.out rfl)
    | (go_at_call 20; refine (sameMsg_same ⟨0, 0, 0, 0, ⟨#[]⟩, 0, 0, []⟩ _ _ _ (movesAt_nil _) (movesAt_nil _)).mono ?_; rintro e w3 ⟨rfl, hb3⟩; have X3 := (hb3.block _ (lt_of_block X2.out)).trans X2.out; have z7 := box_read (i := 7) X3 rfl; have s1 := hb1.size; have s2 := hb2.size; have s3 := hb3.size; rw [World.size_alloc] at s2 s3; have hB3 := hide (((((hb1.alloc hb1.size (.cells #[.int .i64 0, .int .i64 0, .int .i64 0, .int .i64 0, .string ⟨#[]⟩, .int .i64 0, .int .i64 0, .slice none 0 0] 39)).trans (hb2.mono (by simp; omega))).alloc (by omega) _).trans (hb3.mono (by simp; omega)))); have bk3 := hide (HK.out.below hB3.out))
    | (go_at_call 17; refine (keepMoves_any K base w.heap.size 0 L [] _ _ bk3.out (.inl ⟨rfl, rfl, rfl⟩) (by omega) (by omega) H4.out hbK hbw).mono ?_; rintro e w5 ⟨rfl, hb5, L', bk5, hl5⟩; have BK5 := hide bk5; have HL5 := hide hl5; clear bk5 hl5))
  go_ret
  exact ⟨rfl, (hB3.out.mono hbw).trans hb5, L', BK5.out, HL5.out⟩

set_option maxRecDepth 100000 in
set_option maxHeartbeats 4000000 in
theorem lawDec_ok (K base : Nat) (L : List Value) (s : ByteArray) (w : World) (hk : BookM w K base w.heap.size L) (hL : L.length ≤ 90000000) (h4 : L.length % 4 = 0) (hbK : base ≤ K) (hbw : base ≤ w.heap.size) (hs : s.size ≤ maxLen) (h : okMsg s = true) :
    Calls Try.prog 7 #[.pointer (some ⟨K, 0, none⟩), .string s] w (LawPost K base L w) := by
  have HK := hide hk
  have H4 := hide h4
  have hd := fun W => decode_ok s W hs h
  have hr := fun W => refDec_ok s _ W hs h (pos_same h)
  clear hk h h4
  generalize (readMsg s false).1 = m at hd hr
  obtain ⟨k, f, h, r, c, p, b, l⟩ := m
  dsimp only at hd hr
  have HD := hide hd
  have HR := hide hr
  clear hd hr
  go_enter Try.func7, Try.ntmps7
  go_wp2_with (first
    | (go_at_call 18; refine (HD.out _).mono ?_; rintro e w1 ⟨v, rfl, hrow, hb1⟩; obtain ⟨ao, ln, rfl⟩ := hrow.slice; have HROW := hide hrow; clear hrow; have X1 := hide (World.alloc_heap_new w1 (.cells #[.int .i64 k, .int .i64 f, .int .i64 h, .int .i64 r, .string c, .int .i64 p, .int .i64 b, .slice ao ln ln] 39 (0, 0))))
    | (go_at_call 19; refine (HR.out _).mono ?_; rintro e w2 ⟨v2, rfl, hat, hb2⟩; obtain ⟨bo, cb, rfl, hat2⟩ := hat.open'; have HAT := hide hat; clear hat hat2; have X2 := hide (box_alloc (o' := .cells #[.int .i64 k, .int .i64 f, .int .i64 h, .int .i64 r, .string c, .int .i64 p, .int .i64 b, .slice bo l.length cb] 39) ((hb2.block _ (lt_of_block X1.out)).trans X1.out)); have x0 := box_read (i := 0) X2.out rfl; have x1 := box_read (i := 1) X2.out rfl; have x2 := box_read (i := 2) X2.out rfl; have x3 := box_read (i := 3) X2.out rfl; have x4 := box_read (i := 4) X2.out rfl; have x5 := box_read (i := 5) X2.out rfl; have x6 := box_read (i := 6) X2.out rfl; have x7 := box_read (i := 7) X2.out rfl; have s1 := hb1.size; have s2 := hb2.size; rw [World.size_alloc] at s2; have hB12 := hide ((((Below.refl _ w1).alloc (Nat.le_refl _) (.cells #[.int .i64 k, .int .i64 f, .int .i64 h, .int .i64 r, .string c, .int .i64 p, .int .i64 b, .slice ao ln ln] 39)).trans (hb2.mono (by simp))).alloc (by omega) (.cells #[.int .i64 k, .int .i64 f, .int .i64 h, .int .i64 r, .string c, .int .i64 p, .int .i64 b, .slice bo l.length cb] 39)); have HB := hide (HAT.out.below ((Below.refl _ w2).alloc (Nat.le_refl _) (.cells #[.int .i64 k, .int .i64 f, .int .i64 h, .int .i64 r, .string c, .int .i64 p, .int .i64 b, .slice bo l.length cb] 39))); have HA := hide ((HROW.out.below hB12.out).atAny HAT.out.2.1 HAT.out.2.2))
    | (go_at_call 20; refine (sameMsg_same ⟨k, f, h, r, c, p, b, l⟩ _ _ _ HA.out HB.out).mono ?_; rintro e w3 ⟨rfl, hb3⟩; have X3 := (hb3.block _ (lt_of_block X2.out)).trans X2.out; have z7 := box_read (i := 7) X3 rfl; have s3 := hb3.size; rw [World.size_alloc] at s3; have hB13 := hide (hB12.out.trans (hb3.mono (by simp; omega))); have hB3 := hide (hb1.trans (hB13.out.mono s1)); have bk3 := hide (HK.out.below hB3.out); have hfr := (HROW.out.below hB13.out).fresh; have HFR := hide hfr.1; have hln : ln ≤ 2000000 := (by rw [← hfr.2]; exact HAT.out.2.2); clear hfr)
    | (go_at_call 17; refine (keepMoves_any K base w.heap.size ln L l _ _ bk3.out HFR.out (by omega) (by omega) H4.out hbK hbw).mono ?_; rintro e w5 ⟨rfl, hb5, L', bk5, hl5⟩; have BK5 := hide bk5; have HL5 := hide hl5; clear bk5 hl5))
  go_ret
  exact ⟨rfl, (hB3.out.mono hbw).trans hb5, L', BK5.out, HL5.out⟩
theorem lawDec_any (K base : Nat) (L : List Value) (s : ByteArray) (w : World) (hk : BookM w K base w.heap.size L) (hL : L.length ≤ 90000000) (h4 : L.length % 4 = 0) (hbK : base ≤ K) (hbw : base ≤ w.heap.size) (hs : s.size ≤ maxLen) :
    Calls Try.prog 7 #[.pointer (some ⟨K, 0, none⟩), .string s] w (LawPost K base L w) := by
  cases h : okMsg s with
  | true => exact lawDec_ok K base L s w hk hL h4 hbK hbw hs h
  | false => exact lawDec_no K base L s w hk hL h4 hbK hbw hs h
end Go.Proofs.Ytpecfjejfkcolaa
