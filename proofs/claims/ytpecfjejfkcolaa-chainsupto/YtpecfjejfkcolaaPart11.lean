import Derived.Test.YtpecfjejfkcolaaPart10
import Derived.Deep.RegionHeld3
import Derived.Deep.DrawnRows
/- The law's chain: Members and Leader against the document's. -/
namespace Go.Proofs.Ytpecfjejfkcolaa
open Go.RowKit Go.Shelf
set_option linter.unusedVariables false

theorem mem_cfg (n : Int) (c : ByteArray) (w : World) (hc : c.size ≤ maxLen) (h : ¬ (4 ≤ n ∧ n ≤ 7)) :
    Calls Try.prog 9 #[.int .i64 n, .string c] w fun e w' => e = .returned (.tuple #[.slice none 0 0, .int .i64 1]) ∧ Below w.heap.size w w' := by
  refine (members_any n c w hc).mono ?_
  rintro e w' ⟨v, rfl, hb, _, hn⟩
  rw [hn (if_neg h), show memErr n c = 1 from if_neg h]
  exact ⟨rfl, hb⟩
theorem mem_none (m : Nat) (c : ByteArray) (w : World) (hc : c.size ≤ maxLen) (h : 4 ≤ (m : Int) ∧ (m : Int) ≤ 7) (hm : members m c = none) :
    Calls Try.prog 9 #[.int .i64 (m : Int), .string c] w fun e w' => e = .returned (.tuple #[.slice none 0 0, .int .i64 5]) ∧ Below w.heap.size w w' := by
  refine (members_any m c w hc).mono ?_
  rintro e w' ⟨v, rfl, hb, _, hn⟩
  have h1 : memO m c = none := by unfold memO; rw [if_pos h, Int.toNat_natCast, hm]
  have h2 : memErr m c = 5 := by unfold memErr; rw [if_pos h, Int.toNat_natCast, hm]; rfl
  rw [hn h1, h2]
  exact ⟨rfl, hb⟩
theorem mem_some (m s z : Nat) (c : ByteArray) (w : World) (hc : c.size ≤ maxLen) (h : 4 ≤ (m : Int) ∧ (m : Int) ≤ 7) (hm : members m c = some s) (hz : sizeS s = z) :
    Calls Try.prog 9 #[.int .i64 (m : Int), .string c] w fun e w' => ∃ g, e = .returned (.tuple #[.slice (some ⟨g, 0, none⟩) z z, .int .i64 0]) ∧ OwnInts w' w.heap.size (.slice (some ⟨g, 0, none⟩) z z) (listed s) ∧ Below w.heap.size w w' := by
  refine (members_any m c w hc).mono ?_
  rintro e w' ⟨v, rfl, hb, hs, _⟩
  have h1 : memO m c = some s := by unfold memO; rw [if_pos h, Int.toNat_natCast, hm]
  have h2 : memErr m c = 0 := by unfold memErr; rw [if_pos h, Int.toNat_natCast, hm]; rfl
  obtain ⟨⟨g, rfl⟩, hown⟩ := hs s h1
  rw [h2]
  rw [hz] at hown ⊢
  exact ⟨g, rfl, hown, hb⟩
theorem lead_is (a b n r : Int) (c : ByteArray) (w : World) (hc : c.size ≤ maxLen) (h : leadRes n r c = (a, b)) :
    Calls Try.prog 10 #[.int .i64 n, .string c, .int .i64 r] w fun e w' => e = .returned (.tuple #[.int .i64 a, .int .i64 b]) ∧ Below w.heap.size w w' := by
  have := leader_any n r c w hc
  rw [h] at this
  exact this
theorem ref_none (m : Nat) (c : ByteArray) (w : World) (h4 : 4 ≤ m) (h8 : m < 8) (hc : c.size ≤ maxLen) (hm : members m c = none) :
    Calls Try.prog 11 #[.int .i64 (m : Int), .string c] w fun e w' => e = .returned (.tuple #[.slice none 0 0, .bool false]) ∧ Below w.heap.size w w' := by
  refine (refMembers_any m c w h4 h8 hc).mono ?_
  rintro e w' ⟨v, rfl, hb, _, hn⟩
  rw [hn hm, hm]
  exact ⟨rfl, hb⟩
theorem ref_some (m s : Nat) (c : ByteArray) (w : World) (h4 : 4 ≤ m) (h8 : m < 8) (hc : c.size ≤ maxLen) (hm : members m c = some s) :
    Calls Try.prog 11 #[.int .i64 (m : Int), .string c] w fun e w' => ∃ v, e = .returned (.tuple #[v, .bool true]) ∧ OwnInts w' w.heap.size v (listed s) ∧ Below w.heap.size w w' := by
  refine (refMembers_any m c w h4 h8 hc).mono ?_
  rintro e w' ⟨v, rfl, hb, hs, _⟩
  rw [hm]
  exact ⟨v, rfl, hs s hm, hb⟩
theorem refLead_is (a : Nat) (s base : Nat) (v : Value) (c : ByteArray) (r : Int) (w : World) (hc : c.size ≤ 18) (hr0 : 0 ≤ r) (hr : r ≤ 9) (hs : 0 < sizeS s) (hv : OwnInts w base v (listed s)) (h : leaderOf s (c.size / 3 + 1 + r.toNat) = a) :
    Calls Try.prog 12 #[v, .string c, .int .i64 r] w fun e w' => e = .returned (.int .i64 (a : Int)) ∧ w' = w := by
  obtain ⟨q, rfl⟩ := Int.eq_ofNat_of_zero_le hr0
  rw [Int.toNat_natCast] at h
  rw [← h]
  exact refLeader_any s base v c q w hc (by omega) hs hv

/-- behind the calls: the list is put into the book, and the book stays -/
def ChainPost (K base : Nat) (L : List Value) (w : World) (e : Ending) (w' : World) : Prop :=
  e = .returned (.bool true) ∧ Below base w w' ∧ ∃ L', BookI w' K base w'.heap.size L' ∧ L'.length = L.length + 4

set_option maxRecDepth 100000 in
set_option maxHeartbeats 2000000 in
theorem chain_cfg (K base : Nat) (L : List Value) (n r : Int) (c : ByteArray) (w : World) (hk : BookI w K base w.heap.size L) (hL : L.length ≤ 90000000) (h4 : L.length % 4 = 0) (hbK : base ≤ K) (hbw : base ≤ w.heap.size) (hc : c.size ≤ maxLen)
    (hn : ¬ (4 ≤ n ∧ n ≤ 7)) : Calls Try.prog 5 #[.pointer (some ⟨K, 0, none⟩), .int .i64 n, .string c, .int .i64 r] w (ChainPost K base L w) := by
  have HL := hide (leadRes_cfg (r := r) (c := c) hn)
  have HN := hide hn
  have HK := hide hk
  have H4 := hide h4
  clear hk h4
  by_cases h1 : n < 4
  · have h1B : decide (4 ≤ n) = false := by simp; omega
    clear hn
    go_enter Try.func5, Try.ntmps5
    go_wp2_with (first
      | (go_at_call 9; refine (mem_cfg n c _ hc HN.out).mono ?_; rintro e w1 ⟨rfl, hb1⟩; have bk1 := hide (HK.out.below hb1))
      | (go_at_call 10; refine (lead_is 0 1 _ r c _ hc HL.out).mono ?_; rintro e w2 ⟨rfl, hb2⟩; have bk2 := hide (bk1.out.below hb2))
      | (go_at_call 13; refine (sameInts_same [] _ _ _ (.inl ⟨rfl, rfl⟩) (.inl ⟨rfl, rfl⟩) (by simp)).mono ?_; rintro e w4 ⟨rfl, hb4⟩; have bk4 := hide (bk2.out.below hb4))
      | (go_at_call 14; refine (keepInts_any K base w.heap.size 0 L [] _ _ bk4.out (.inl ⟨rfl, rfl, rfl⟩) rfl (by omega) (by omega) H4.out hbK hbw).mono ?_; rintro e w5 ⟨rfl, hb5, L', bk5, hl5⟩; have BK5 := hide bk5; have HL5 := hide hl5; clear bk5 hl5)
      | (go_at_call 8; refine (staysI_any K base _ _ _ BK5.out (by rw [HL5.out]; omega)).mono ?_; rintro e w6 ⟨rfl, rfl⟩))
    go_ret
    have s1 := hb1.size
    have s2 := hb2.size
    have s4 := hb4.size
    exact ⟨rfl, (((hb1.mono hbw).trans (hb2.mono (by omega))).trans (hb4.mono (by omega))).trans hb5, L', BK5.out, HL5.out⟩
  · have h2 : 7 < n := by omega
    clear hn
    go_enter Try.func5, Try.ntmps5
    go_wp2_with (first
      | (go_at_call 9; refine (mem_cfg n c _ hc HN.out).mono ?_; rintro e w1 ⟨rfl, hb1⟩; have bk1 := hide (HK.out.below hb1))
      | (go_at_call 10; refine (lead_is 0 1 _ r c _ hc HL.out).mono ?_; rintro e w2 ⟨rfl, hb2⟩; have bk2 := hide (bk1.out.below hb2))
      | (go_at_call 13; refine (sameInts_same [] _ _ _ (.inl ⟨rfl, rfl⟩) (.inl ⟨rfl, rfl⟩) (by simp)).mono ?_; rintro e w4 ⟨rfl, hb4⟩; have bk4 := hide (bk2.out.below hb4))
      | (go_at_call 14; refine (keepInts_any K base w.heap.size 0 L [] _ _ bk4.out (.inl ⟨rfl, rfl, rfl⟩) rfl (by omega) (by omega) H4.out hbK hbw).mono ?_; rintro e w5 ⟨rfl, hb5, L', bk5, hl5⟩; have BK5 := hide bk5; have HL5 := hide hl5; clear bk5 hl5)
      | (go_at_call 8; refine (staysI_any K base _ _ _ BK5.out (by rw [HL5.out]; omega)).mono ?_; rintro e w6 ⟨rfl, rfl⟩))
    go_ret
    have s1 := hb1.size
    have s2 := hb2.size
    have s4 := hb4.size
    exact ⟨rfl, (((hb1.mono hbw).trans (hb2.mono (by omega))).trans (hb4.mono (by omega))).trans hb5, L', BK5.out, HL5.out⟩

set_option maxRecDepth 100000 in
set_option maxHeartbeats 2000000 in
theorem chain_none (K base : Nat) (L : List Value) (m : Nat) (r : Int) (c : ByteArray) (w : World) (hk : BookI w K base w.heap.size L) (hL : L.length ≤ 90000000) (h4 : L.length % 4 = 0) (hbK : base ≤ K) (hbw : base ≤ w.heap.size) (hc : c.size ≤ maxLen)
    (hn : 4 ≤ (m : Int) ∧ (m : Int) ≤ 7) (hm : members m c = none) : Calls Try.prog 5 #[.pointer (some ⟨K, 0, none⟩), .int .i64 (m : Int), .string c, .int .i64 r] w (ChainPost K base L w) := by
  have HL := hide (leadRes_chain (r := r) hn hm)
  have HN := hide hn
  have HM := hide hm
  have m4 : 4 ≤ m := by omega
  have m8 : m < 8 := by omega
  have HK := hide hk
  have H4 := hide h4
  clear hk h4
  clear hm hn
  go_enter Try.func5, Try.ntmps5
  go_wp2_with (first
    | (go_at_call 9; refine (mem_none m c _ hc HN.out HM.out).mono ?_; rintro e w1 ⟨rfl, hb1⟩; have bk1 := hide (HK.out.below hb1))
    | (go_at_call 10; refine (lead_is 0 5 _ r c _ hc HL.out).mono ?_; rintro e w2 ⟨rfl, hb2⟩; have bk2 := hide (bk1.out.below hb2))
    | (go_at_call 11; refine (ref_none m c _ m4 m8 hc HM.out).mono ?_; rintro e w3 ⟨rfl, hb3⟩; have bk3 := hide (bk2.out.below hb3))
    | (go_at_call 13; refine (sameInts_same [] _ _ _ (.inl ⟨rfl, rfl⟩) (.inl ⟨rfl, rfl⟩) (by simp)).mono ?_; rintro e w4 ⟨rfl, hb4⟩; have bk4 := hide (bk3.out.below hb4))
    | (go_at_call 14; refine (keepInts_any K base w.heap.size 0 L [] _ _ bk4.out (.inl ⟨rfl, rfl, rfl⟩) rfl (by omega) (by omega) H4.out hbK hbw).mono ?_; rintro e w5 ⟨rfl, hb5, L', bk5, hl5⟩; have BK5 := hide bk5; have HL5 := hide hl5; clear bk5 hl5)
    | (go_at_call 8; refine (staysI_any K base _ _ _ BK5.out (by rw [HL5.out]; omega)).mono ?_; rintro e w6 ⟨rfl, rfl⟩))
  go_ret
  have s1 := hb1.size
  have s2 := hb2.size
  have s3 := hb3.size
  have s4 := hb4.size
  exact ⟨rfl, ((((hb1.mono hbw).trans (hb2.mono (by omega))).trans (hb3.mono (by omega))).trans (hb4.mono (by omega))).trans hb5, L', BK5.out, HL5.out⟩

theorem fresh_of {w : World} {top g s z : Nat} (h : OwnInts w top (.slice (some ⟨g, 0, none⟩) z z) (listed s)) (hz : sizeS s = z) : Fresh w top (.slice (some ⟨g, 0, none⟩) z z) z ((castL (listed s)).map (Value.int .i64)) := by
  have h2 : w.ownsRow top 3 1 (.slice (some ⟨g, 0, none⟩) z z) z ((castL (listed s)).map (Value.int .i64)) := by
    have h3 := h
    unfold OwnInts at h3
    rw [castL_len, show (listed s).length = z from hz] at h3
    exact h3
  exact .inr ⟨g, rfl, (h2.lt g rfl).1, ownsRow_mono h2 (Nat.zero_le _)⟩

set_option maxRecDepth 100000 in
set_option maxHeartbeats 2000000 in
theorem chain_some (K base : Nat) (L : List Value) (m s : Nat) (r : Int) (c : ByteArray) (w : World) (hk : BookI w K base w.heap.size L) (hL : L.length ≤ 90000000) (h4 : L.length % 4 = 0) (hbK : base ≤ K) (hbw : base ≤ w.heap.size) (hc : c.size ≤ maxLen)
    (hn : 4 ≤ (m : Int) ∧ (m : Int) ≤ 7) (hm : members m c = some s) : Calls Try.prog 5 #[.pointer (some ⟨K, 0, none⟩), .int .i64 (m : Int), .string c, .int .i64 r] w (ChainPost K base L w) := by
  have HN := hide hn
  have HM := hide hm
  have m4 : 4 ≤ m := by omega
  have m8 : m < 8 := by omega
  have h18 := members_size hm
  obtain ⟨z, hz⟩ : ∃ z, sizeS s = z := ⟨_, rfl⟩
  have hz4 : 4 ≤ z := by rw [← hz]; exact members_ge m4 m8 hm
  have hz7 : z ≤ 7 := by rw [← hz]; exact sizeS_le
  have HZ := hide hz
  have HK := hide hk
  have H4 := hide h4
  clear hk h4
  clear hz
  by_cases hr : 0 ≤ r ∧ r ≤ 9
  · obtain ⟨ld, hld⟩ : ∃ ld, leaderOf s (c.size / 3 + 1 + r.toNat) = ld := ⟨_, rfl⟩
    have HL : Hid (leadRes (m : Int) r c = ((ld : Int), 0)) := by
      show _ = _
      rw [leadRes_ok hn hm hr, hld]
    have HLD := hide hld
    obtain ⟨hr0, hr9⟩ := hr
    clear hm hn hld
    go_enter Try.func5, Try.ntmps5
    go_wp2_with (first
      | (go_at_call 9; refine (mem_some m s z c _ hc HN.out HM.out HZ.out).mono ?_; rintro e w1 ⟨g, rfl, hv1, hb1⟩; have bk1 := hide (HK.out.below hb1); have HV1 := hide hv1; clear hv1)
      | (go_at_call 10; refine (lead_is ld 0 _ r c _ hc HL.out).mono ?_; rintro e w2 ⟨rfl, hb2⟩; have bk2 := hide (bk1.out.below hb2); have HV2 := hide (show OwnInts w2 w.heap.size _ (listed s) from ownsRow_below HV1.out hb2))
      | (go_at_call 11; refine (ref_some m s c _ m4 m8 hc HM.out).mono ?_; rintro e w3 ⟨u, rfl, hu3, hb3⟩; have bk3 := hide (bk2.out.below hb3); have HV3 := hide (show OwnInts w3 w.heap.size _ (listed s) from ownsRow_below HV2.out hb3); have HU3 := hide hu3; clear hu3)
      | (go_at_call 12; refine (refLead_is ld s _ _ c r _ h18 hr0 hr9 (by rw [HZ.out]; omega) HU3.out HLD.out).mono ?_; rintro e w3 ⟨rfl, rfl⟩)
      | (go_at_call 13; refine (sameInts_same (castL (listed s)) _ _ _ HV3.out.ints HU3.out.ints (by rw [castL_len]; have := sizeS_le (s := s); unfold sizeS at this; omega)).mono ?_; rintro e w4 ⟨rfl, hb4⟩; have bk4 := hide (bk3.out.below hb4); have HV4 := hide (show OwnInts w4 w.heap.size _ (listed s) from ownsRow_below HV3.out hb4))
      | (go_at_call 14; refine (keepInts_any K base w.heap.size z L _ _ _ bk4.out (fresh_of HV4.out HZ.out) (by rw [List.length_map, castL_len]; exact HZ.out) (by omega) (by omega) H4.out hbK hbw).mono ?_; rintro e w5 ⟨rfl, hb5, L', bk5, hl5⟩; have BK5 := hide bk5; have HL5 := hide hl5; clear bk5 hl5)
      | (go_at_call 8; refine (staysI_any K base _ _ _ BK5.out (by rw [HL5.out]; omega)).mono ?_; rintro e w6 ⟨rfl, rfl⟩))
    go_ret
    have s1 := hb1.size
    have s2 := hb2.size
    have s3 := hb3.size
    have s4 := hb4.size
    exact ⟨rfl, ((((hb1.mono hbw).trans (hb2.mono (by omega))).trans (hb3.mono (by omega))).trans (hb4.mono (by omega))).trans hb5, L', BK5.out, HL5.out⟩
  · have HL := hide (leadRes_step hn hm hr)
    clear hm hn
    by_cases hr0 : r < 0
    · clear hr
      go_enter Try.func5, Try.ntmps5
      go_wp2_with (first
        | (go_at_call 9; refine (mem_some m s z c _ hc HN.out HM.out HZ.out).mono ?_; rintro e w1 ⟨g, rfl, hv1, hb1⟩; have bk1 := hide (HK.out.below hb1); have HV1 := hide hv1; clear hv1)
        | (go_at_call 10; refine (lead_is 0 4 _ r c _ hc HL.out).mono ?_; rintro e w2 ⟨rfl, hb2⟩; have bk2 := hide (bk1.out.below hb2); have HV2 := hide (show OwnInts w2 w.heap.size _ (listed s) from ownsRow_below HV1.out hb2))
        | (go_at_call 11; refine (ref_some m s c _ m4 m8 hc HM.out).mono ?_; rintro e w3 ⟨u, rfl, hu3, hb3⟩; have bk3 := hide (bk2.out.below hb3); have HV3 := hide (show OwnInts w3 w.heap.size _ (listed s) from ownsRow_below HV2.out hb3); have HU3 := hide hu3; clear hu3)
        | (go_at_call 13; refine (sameInts_same (castL (listed s)) _ _ _ HV3.out.ints HU3.out.ints (by rw [castL_len]; have := sizeS_le (s := s); unfold sizeS at this; omega)).mono ?_; rintro e w4 ⟨rfl, hb4⟩; have bk4 := hide (bk3.out.below hb4); have HV4 := hide (show OwnInts w4 w.heap.size _ (listed s) from ownsRow_below HV3.out hb4))
        | (go_at_call 14; refine (keepInts_any K base w.heap.size z L _ _ _ bk4.out (fresh_of HV4.out HZ.out) (by rw [List.length_map, castL_len]; exact HZ.out) (by omega) (by omega) H4.out hbK hbw).mono ?_; rintro e w5 ⟨rfl, hb5, L', bk5, hl5⟩; have BK5 := hide bk5; have HL5 := hide hl5; clear bk5 hl5)
        | (go_at_call 8; refine (staysI_any K base _ _ _ BK5.out (by rw [HL5.out]; omega)).mono ?_; rintro e w6 ⟨rfl, rfl⟩))
      go_ret
      have s1 := hb1.size
      have s2 := hb2.size
      have s3 := hb3.size
      have s4 := hb4.size
      exact ⟨rfl, ((((hb1.mono hbw).trans (hb2.mono (by omega))).trans (hb3.mono (by omega))).trans (hb4.mono (by omega))).trans hb5, L', BK5.out, HL5.out⟩
    · have hr9 : 9 < r := by omega
      clear hr
      go_enter Try.func5, Try.ntmps5
      go_wp2_with (first
        | (go_at_call 9; refine (mem_some m s z c _ hc HN.out HM.out HZ.out).mono ?_; rintro e w1 ⟨g, rfl, hv1, hb1⟩; have bk1 := hide (HK.out.below hb1); have HV1 := hide hv1; clear hv1)
        | (go_at_call 10; refine (lead_is 0 4 _ r c _ hc HL.out).mono ?_; rintro e w2 ⟨rfl, hb2⟩; have bk2 := hide (bk1.out.below hb2); have HV2 := hide (show OwnInts w2 w.heap.size _ (listed s) from ownsRow_below HV1.out hb2))
        | (go_at_call 11; refine (ref_some m s c _ m4 m8 hc HM.out).mono ?_; rintro e w3 ⟨u, rfl, hu3, hb3⟩; have bk3 := hide (bk2.out.below hb3); have HV3 := hide (show OwnInts w3 w.heap.size _ (listed s) from ownsRow_below HV2.out hb3); have HU3 := hide hu3; clear hu3)
        | (go_at_call 13; refine (sameInts_same (castL (listed s)) _ _ _ HV3.out.ints HU3.out.ints (by rw [castL_len]; have := sizeS_le (s := s); unfold sizeS at this; omega)).mono ?_; rintro e w4 ⟨rfl, hb4⟩; have bk4 := hide (bk3.out.below hb4); have HV4 := hide (show OwnInts w4 w.heap.size _ (listed s) from ownsRow_below HV3.out hb4))
        | (go_at_call 14; refine (keepInts_any K base w.heap.size z L _ _ _ bk4.out (fresh_of HV4.out HZ.out) (by rw [List.length_map, castL_len]; exact HZ.out) (by omega) (by omega) H4.out hbK hbw).mono ?_; rintro e w5 ⟨rfl, hb5, L', bk5, hl5⟩; have BK5 := hide bk5; have HL5 := hide hl5; clear bk5 hl5)
        | (go_at_call 8; refine (staysI_any K base _ _ _ BK5.out (by rw [HL5.out]; omega)).mono ?_; rintro e w6 ⟨rfl, rfl⟩))
      go_ret
      have s1 := hb1.size
      have s2 := hb2.size
      have s3 := hb3.size
      have s4 := hb4.size
      exact ⟨rfl, ((((hb1.mono hbw).trans (hb2.mono (by omega))).trans (hb3.mono (by omega))).trans (hb4.mono (by omega))).trans hb5, L', BK5.out, HL5.out⟩

theorem chain_any (K base : Nat) (L : List Value) (n r : Int) (c : ByteArray) (w : World) (hk : BookI w K base w.heap.size L) (hL : L.length ≤ 90000000) (h4 : L.length % 4 = 0) (hbK : base ≤ K) (hbw : base ≤ w.heap.size) (hc : c.size ≤ maxLen) :
    Calls Try.prog 5 #[.pointer (some ⟨K, 0, none⟩), .int .i64 n, .string c, .int .i64 r] w (ChainPost K base L w) := by
  by_cases hn : 4 ≤ n ∧ n ≤ 7
  · obtain ⟨m, rfl⟩ := Int.eq_ofNat_of_zero_le (show 0 ≤ n by omega)
    cases h : members m c with
    | none => exact chain_none K base L m r c w hk hL h4 hbK hbw hc hn h
    | some s => exact chain_some K base L m s r c w hk hL h4 hbK hbw hc hn h
  · exact chain_cfg K base L n r c w hk hL h4 hbK hbw hc hn
end Go.Proofs.Ytpecfjejfkcolaa

/- The law Chains, walked. -/
namespace Go.Proofs.Ytpecfjejfkcolaa
open Go.RowKit Go.Shelf
attribute [local go_sem] Go.wp_at_zero Go.wp_at_succ
set_option linter.unusedVariables false

theorem bookI_new (w : World) : BookI (w.alloc (.cells #[.slice none 0 0, .slice none 0 0, .slice none 0 0] 28)) w.heap.size w.heap.size (w.alloc (.cells #[.slice none 0 0, .slice none 0 0, .slice none 0 0] 28)).heap.size [] :=
  ⟨⟨.slice none 0 0, World.alloc_heap_new w _, World.ownsRow_nil _ _ _ _⟩, fun i hi => by simp at hi, Nat.le_refl _⟩
theorem BookI.drew {w : World} {K base top : Nat} {L : List Value} (h : BookI w K base top L) : BookI w.drew K base top L := h.below (Below.refl _ w).drew

set_option maxRecDepth 100000 in
set_option maxHeartbeats 2000000 in
theorem chains_walk (ao : Option Addr) (len cap b off : Nat) (N R : Nat → Int) (T : Nat → ByteArray) (w : World) (hlen : len ≤ 1048576) (hcap : len ≤ cap) (hao : 0 < len → ao = some ⟨b, off, none⟩) (hb : 0 < len → b < w.heap.size)
    (hc : ∀ i, i < len → w.cell? ⟨b, off + i * 3, none⟩ = some (.int .i64 (N i)) ∧ w.cell? ⟨b, off + i * 3 + 1, none⟩ = some (.string (T i)) ∧ w.cell? ⟨b, off + i * 3 + 2, none⟩ = some (.int .i64 (R i)) ∧ (T i).size ≤ maxLen) :
    Calls Try.prog 3 #[.slice ao len cap] w fun e w' => e = .returned (.bool true) ∧ Below w.heap.size w w' := by
  have HC := hide hc
  have HAO := hide hao
  have HB := hide hb
  clear hc hao hb
  go_enter Try.func3, Try.ntmps3
  go_wp2
  go_loopw [4] (fun i wr => ∃ (k : Nat) (L : List Value), k ≤ len ∧ i = .int .i64 (k : Int) ∧ BookI wr w.heap.size w.heap.size wr.heap.size L ∧ Hid (L.length = 4 * k) ∧ Below w.heap.size w wr) (fun i _ => len - (intOf i).toNat)
  case atStart => exact ⟨0, [], by omega, rfl, bookI_new w, rfl, (Below.refl _ w).alloc (Nat.le_refl _) _⟩
  case round =>
    obtain ⟨k, L, hk, rfl, hbk, hL, hB⟩ := hrel
    have hsz := hB.size
    have HBK := hide hbk
    clear hbk
    by_cases hlt : k < len
    · have e := HAO.out (by omega)
      subst e
      have hbw := HB.out (by omega)
      obtain ⟨c0, c1, c2, ht⟩ := HC.out k hlt
      rw [← hB.cell (p := ⟨b, off + k * 3, none⟩) hbw] at c0
      rw [← hB.cell (p := ⟨b, off + k * 3 + 1, none⟩) hbw] at c1
      rw [← hB.cell (p := ⟨b, off + k * 3 + 2, none⟩) hbw] at c2
      obtain ⟨n, hn⟩ : ∃ n, N k = n := ⟨_, rfl⟩
      obtain ⟨t, htt⟩ : ∃ t, T k = t := ⟨_, rfl⟩
      obtain ⟨r, hr⟩ : ∃ r, R k = r := ⟨_, rfl⟩
      rw [hn] at c0
      rw [htt] at c1 ht
      rw [hr] at c2
      clear hn htt hr
      have i0 : (0 : Int) ≤ (k : Int) := by omega
      have i1 : (k : Int) < (len : Int) := by omega
      have HT := hide ht
      clear ht
      go_wp2
      go_region_held3 (fun w' => w'.cell? ⟨b, off + k * 3, none⟩ = some (.int .i64 n) ∧ w'.cell? ⟨b, off + k * 3 + 1, none⟩ = some (.string t) ∧ w'.cell? ⟨b, off + k * 3 + 2, none⟩ = some (.int .i64 r)) (go_keep)
        ((go_at_call 5; refine (chain_any w.heap.size w.heap.size L n r t _ HBK.out.drew (by have := hL.out; omega) (by have := hL.out; omega) (Nat.le_refl _) (by simp; omega) HT.out).mono ?_; rintro e w' ⟨rfl, hb', L', bk', hl'⟩; have d0 := (hb'.cell (p := ⟨b, off + k * 3, none⟩) hbw).trans c0; have d1 := (hb'.cell (p := ⟨b, off + k * 3 + 1, none⟩) hbw).trans c1; have d2 := (hb'.cell (p := ⟨b, off + k * 3 + 2, none⟩) hbw).trans c2; have BK' := hide bk'; have HL' := hide hl'; clear bk' hl'))
      go_wp2
      go_roundw
      case rel => exact ⟨k + 1, L', by omega, by go_num, BK'.out, by rw [HL'.out, hL.out]; show _ = _; omega, hB.trans ((Below.refl _ _).drew.trans hb')⟩
      case measure => simp [intOf]; omega
    · go_wp2_with (go_at_call 5; refine (chain_any w.heap.size w.heap.size L 4 2 _ _ HBK.out (by have := hL.out; omega) (by have := hL.out; omega) (Nat.le_refl _) hsz (by decide)).mono ?_; rintro e w' ⟨rfl, hb', _⟩)
      go_ret
      exact ⟨rfl, hB.trans hb'⟩
end Go.Proofs.Ytpecfjejfkcolaa
