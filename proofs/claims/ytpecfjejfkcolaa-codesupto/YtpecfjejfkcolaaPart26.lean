import Derived.Test.YtpecfjejfkcolaaPart25
import Derived.Lib.SlicesS
/- The law's mark. -/
namespace Go.Proofs.Ytpecfjejfkcolaa
open Go.RowKit Go.Shelf
set_option linter.unusedVariables false

def byteB (n : Nat) : UInt8 := UInt8.ofNat n
/-- a number as a text -/
def markB (n : Nat) : ByteArray := ⟨#[109, 97, 114, 107]⟩ ++ ⟨#[byteB n, byteB (n / 256), byteB (n / 65536)]⟩
set_option maxHeartbeats 1000000 in
set_option maxRecDepth 100000 in
theorem mark_any (n : Nat) (w : World) (hn : n ≤ 1000000000) :
    Calls Try.prog 21 #[.int .i64 (n : Int)] w fun e w' => e = .returned (.string (markB n)) ∧ Below w.heap.size w w' := by
  have b0 : (((byteB n).toNat : Nat) : Int) = (n : Int) % 256 := by unfold byteB; rw [UInt8.toNat_ofNat']; omega
  have b1 : (((byteB (n / 256)).toNat : Nat) : Int) = (n : Int) / 256 % 256 := by unfold byteB; rw [UInt8.toNat_ofNat']; omega
  have b2 : (((byteB (n / 65536)).toNat : Nat) : Int) = (n : Int) / 65536 % 256 := by unfold byteB; rw [UInt8.toNat_ofNat']; omega
  have hcv : (convert 80 9 (.slice (some ⟨w.heap.size, 0, none⟩) 3 3)).run Try.prog (w.alloc (.cells #[.int .u8 ((n : Int) % 256), .int .u8 ((n : Int) / 256 % 256), .int .u8 ((n : Int) / 65536 % 256)] 5)) = .ok (.string ⟨#[byteB n, byteB (n / 256), byteB (n / 65536)]⟩) (w.alloc (.cells #[.int .u8 ((n : Int) % 256), .int .u8 ((n : Int) / 256 % 256), .int .u8 ((n : Int) / 65536 % 256)] 5)) := by
    refine run_convert_bytes_back (P := Try.prog) _ 80 9 5 ⟨w.heap.size, 0, none⟩ 3 [byteB n, byteB (n / 256), byteB (n / 65536)] Try.underlying80 Try.underlying5 Try.underlying9 (fun j hj => ?_)
    have hx := World.alloc_heap_new w (.cells #[.int .u8 ((n : Int) % 256), .int .u8 ((n : Int) / 256 % 256), .int .u8 ((n : Int) / 65536 % 256)] 5 (0, 0))
    match j, hj with
    | 0, _ => rw [List.getElem_cons_zero, b0]; exact box_read (i := 0) hx rfl
    | 1, _ => rw [List.getElem_cons_succ, List.getElem_cons_zero, b1]; exact box_read (i := 1) hx rfl
    | 2, _ => rw [List.getElem_cons_succ, List.getElem_cons_succ, List.getElem_cons_zero, b2]; exact box_read (i := 2) hx rfl
  clear b0 b1 b2
  go_enter Try.func21, Try.ntmps21
  go_wp2
  go_ret
  exact ⟨rfl, (Below.refl _ w).alloc (Nat.le_refl _) _⟩
theorem markB_size (n : Nat) : (markB n).size = 7 := rfl
end Go.Proofs.Ytpecfjejfkcolaa

/- mootref.Decode, but for Propose. -/
namespace Go.Proofs.Ytpecfjejfkcolaa
open Go.RowKit Go.Shelf
set_option linter.unusedVariables false
theorem dec_flags {s t : ByteArray} {er : Int} {m : Mg} (hp : posMsg s = m) (he : encRes m = .tuple #[.string t, .int .i64 er]) : okMsg s = ((er == 0) && (t.toList == s.toList)) := by
  rw [Bool.eq_iff_iff, ← pos_iff, hp, Bool.and_eq_true, beq_iff_eq, Lib.bytes_beq_iff]
  unfold encRes at he
  split at he
  · rename_i h
    simp at he
    obtain ⟨rfl, rfl⟩ := he
    exact ⟨fun h => ⟨rfl, h.2⟩, fun h2 => ⟨h, h2.2⟩⟩
  · rename_i h
    simp at he
    obtain ⟨_, rfl⟩ := he
    exact ⟨fun h2 => absurd h2.1 h, fun h2 => absurd h2.1 (by decide)⟩
/-- what the document's Decode answers, where there are no Moves -/
def RefPost (s : ByteArray) (w : World) (e : Ending) (w' : World) : Prop :=
  ((okMsg s = true ∧ e = .returned (.tuple #[mgV (posMsg s) (.slice none 0 0), .int .i64 0]) ∧ (posMsg s).moves = []) ∨ (okMsg s = false ∧ e = .returned (.tuple #[noMsg, .int .i64 2]))) ∧ Below w.heap.size w w'
theorem refEnc_nil (m : Mg) (w : World) (hm : m.moves = []) (hc : m.chain.size ≤ maxLen) : Calls Try.prog 16 #[mgV m (.slice none 0 0)] w fun e w' => e = .returned (encRes m) ∧ Below w.heap.size w w' :=
  refEnc_any m _ w (by rw [hm]; exact ⟨⟨none, 0, rfl, fun h => absurd h (by simp)⟩, (fun x hx => absurd hx (by simp)), Nat.zero_le _⟩) hc
theorem moveAt_is (s : ByteArray) (z h p b q : Int) (c : ByteArray) (w : World) (hs : s.size ≤ maxLen) (h0 : 0 ≤ z) (h1 : z ≤ 10000000) (hh : 0 ≤ h ∧ h ≤ 255) (hm : moveAtB s z.toNat (3 * h).toNat = (p, c, b, q)) :
    Calls Try.prog 36 #[.string s, .int .i64 z, .int .i64 h] w fun e w' => e = .returned (.tuple #[.int .i64 p, .string c, .int .i64 b, .int .i64 q]) ∧ w' = w := by
  obtain ⟨i, rfl⟩ := Int.eq_ofNat_of_zero_le h0
  have := moveAt_nat s i h w hs (by omega) hh
  rw [Int.toNat_natCast] at hm
  rw [hm] at this
  exact this

set_option maxRecDepth 100000 in
set_option maxHeartbeats 4000000 in
theorem refDec0 (s : ByteArray) (k f h r : Int) (n : Nat)  (w : World) (hs : s.size ≤ maxLen) (h0 : atB s 0 = k) (h1 : atB s 1 = f) (h2 : atB s 2 = h) (h3 : atB s 3 = r) (hn : 3 * h = (n : Int)) (hh : 0 ≤ h ∧ h ≤ 255)  (hp : posMsg s = ⟨k, f, h, r, ⟨#[]⟩, -1, 0, []⟩) (hk : ¬ (1 ≤ k ∧ k ≤ 5)) :
    Calls Try.prog 19 #[.string s] w (RefPost s w) := by
  obtain ⟨t, er, he⟩ := encRes_two ⟨k, f, h, r, ⟨#[]⟩, -1, 0, []⟩
  have hfl := dec_flags hp he
  obtain ⟨b1, hb1⟩ : ∃ x, (er == 0) = x := ⟨_, rfl⟩
  obtain ⟨b2, hb2⟩ : ∃ x, (t.toList == s.toList) = x := ⟨_, rfl⟩
  rw [hb1, hb2] at hfl
  have HFL := hide hfl
  have HENC := hide (fun W => refEnc_nil ⟨k, f, h, r, ⟨#[]⟩, -1, 0, []⟩ W rfl (Nat.zero_le _))
  rw [he] at HENC
  have HP := hide hp
  have K0 : Hid (atB s (0 : Int).toNat = k) := h0
  have K1 : Hid (atB s (1 : Int).toNat = f) := h1
  have K2 : Hid (atB s (2 : Int).toNat = h) := h2
  have K3 : Hid (atB s (3 : Int).toNat = r) := h3
  have HA0 := box_alloc (o' := .cells #[.int .i64 k, .int .i64 f, .int .i64 h, .int .i64 r, .string ⟨#[]⟩, .int .i64 (-1), .int .i64 0, .slice none 0 0] 39) (World.alloc_heap_new w (.cells #[.int .i64 0, .int .i64 0, .int .i64 0, .int .i64 0, .string ⟨#[]⟩, .int .i64 0, .int .i64 0, .slice none 0 0] 39 (0, 0)))
  have HB0 : (((w.alloc (.cells #[.int .i64 0, .int .i64 0, .int .i64 0, .int .i64 0, .string ⟨#[]⟩, .int .i64 0, .int .i64 0, .slice none 0 0] 39)).alloc (.cells #[.int .i64 k, .int .i64 f, .int .i64 h, .int .i64 r, .string ⟨#[]⟩, .int .i64 (-1), .int .i64 0, .slice none 0 0] 39))).heap[w.heap.size + 1]? = some (.cells #[.int .i64 k, .int .i64 f, .int .i64 h, .int .i64 r, .string ⟨#[]⟩, .int .i64 (-1), .int .i64 0, .slice none 0 0] 39 (0, 0)) := by
    have := World.alloc_heap_new (w.alloc (.cells #[.int .i64 0, .int .i64 0, .int .i64 0, .int .i64 0, .string ⟨#[]⟩, .int .i64 0, .int .i64 0, .slice none 0 0] 39)) (.cells #[.int .i64 k, .int .i64 f, .int .i64 h, .int .i64 r, .string ⟨#[]⟩, .int .i64 (-1), .int .i64 0, .slice none 0 0] 39 (0, 0))
    rw [World.size_alloc] at this
    exact this
  have HA := hide HA0
  have HB := hide HB0
  have hbw : Below w.heap.size w ((w.alloc (.cells #[.int .i64 0, .int .i64 0, .int .i64 0, .int .i64 0, .string ⟨#[]⟩, .int .i64 0, .int .i64 0, .slice none 0 0] 39)).alloc (.cells #[.int .i64 k, .int .i64 f, .int .i64 h, .int .i64 r, .string ⟨#[]⟩, .int .i64 (-1), .int .i64 0, .slice none 0 0] 39)) := (((Below.refl _ w).alloc (Nat.le_refl _) _).alloc (by simp) _)
  have HBW := hide hbw
  have k1 : (k == 1) = false := beq_eq_false_iff_ne.2 (by omega)
  have k2 : (k == 2) = false := beq_eq_false_iff_ne.2 (by omega)
  have k3 : (k == 3) = false := beq_eq_false_iff_ne.2 (by omega)
  have k4 : (k == 4) = false := beq_eq_false_iff_ne.2 (by omega)
  have k5 : (k == 5) = false := beq_eq_false_iff_ne.2 (by omega)
  clear h0 h1 h2 h3 hp he hfl HA0 HB0 hbw hk
  go_enter Try.func19, Try.ntmps19
  go_wp2_with (first
    | (go_at_call 34; refine (at_is s _ _ hs (by omega) (by omega)).mono ?_; rintro e w' ⟨rfl, rfl⟩; first | rw [K0.out] | rw [K1.out] | rw [K2.out] | rw [K3.out])
    | (go_at_call 16; refine (HENC.out _).mono ?_; rintro e w3 ⟨rfl, hb3⟩; have a3 := (hb3.block _ (lt_of_block HA.out)).trans HA.out; have x3 := (hb3.block _ (lt_of_block HB.out)).trans HB.out; have t0 := box_read (i := 0) a3 rfl; have e0 := free_of (j := 0) a3; have c0 := box_read (i := 0) x3 rfl; have t1 := box_read (i := 1) a3 rfl; have e1 := free_of (j := 1) a3; have c1 := box_read (i := 1) x3 rfl; have t2 := box_read (i := 2) a3 rfl; have e2 := free_of (j := 2) a3; have c2 := box_read (i := 2) x3 rfl; have t3 := box_read (i := 3) a3 rfl; have e3 := free_of (j := 3) a3; have c3 := box_read (i := 3) x3 rfl; have t4 := box_read (i := 4) a3 rfl; have e4 := free_of (j := 4) a3; have c4 := box_read (i := 4) x3 rfl; have t5 := box_read (i := 5) a3 rfl; have e5 := free_of (j := 5) a3; have c5 := box_read (i := 5) x3 rfl; have t6 := box_read (i := 6) a3 rfl; have e6 := free_of (j := 6) a3; have c6 := box_read (i := 6) x3 rfl; have t7 := box_read (i := 7) a3 rfl; have e7 := free_of (j := 7) a3; have c7 := box_read (i := 7) x3 rfl))
  all_goals have B3 := HBW.out.trans (hb3.mono HBW.out.size)
  · refine bodyPost_ret (v := .tuple #[noMsg, .int .i64 2]) (by simp [results, Try.results19, go_sem, t0, t1, t2, t3, t4, t5, t6, t7]) rfl ⟨.inr ⟨?_, rfl⟩, ((((((((B3.setCell (p := ⟨w.heap.size, 0, none⟩) (Nat.le_refl _) _).setCell (p := ⟨w.heap.size, 1, none⟩) (Nat.le_refl _) _).setCell (p := ⟨w.heap.size, 2, none⟩) (Nat.le_refl _) _).setCell (p := ⟨w.heap.size, 3, none⟩) (Nat.le_refl _) _).setCell (p := ⟨w.heap.size, 4, none⟩) (Nat.le_refl _) _).setCell (p := ⟨w.heap.size, 5, none⟩) (Nat.le_refl _) _).setCell (p := ⟨w.heap.size, 6, none⟩) (Nat.le_refl _) _).setCell (p := ⟨w.heap.size, 7, none⟩) (Nat.le_refl _) _)⟩
    have q : (!b2) = true := by assumption
    have q' : b2 = false := by simpa using q
    rw [HFL.out, q', Bool.and_false]
  · refine bodyPost_ret (v := .tuple #[mgV ⟨k, f, h, r, ⟨#[]⟩, -1, 0, []⟩ (.slice none 0 0), .int .i64 0]) (by simp [results, Try.results19, go_sem, t0, t1, t2, t3, t4, t5, t6, t7]) rfl ⟨.inl ⟨?_, ?_, ?_⟩, ((((((((B3.setCell (p := ⟨w.heap.size, 0, none⟩) (Nat.le_refl _) _).setCell (p := ⟨w.heap.size, 1, none⟩) (Nat.le_refl _) _).setCell (p := ⟨w.heap.size, 2, none⟩) (Nat.le_refl _) _).setCell (p := ⟨w.heap.size, 3, none⟩) (Nat.le_refl _) _).setCell (p := ⟨w.heap.size, 4, none⟩) (Nat.le_refl _) _).setCell (p := ⟨w.heap.size, 5, none⟩) (Nat.le_refl _) _).setCell (p := ⟨w.heap.size, 6, none⟩) (Nat.le_refl _) _).setCell (p := ⟨w.heap.size, 7, none⟩) (Nat.le_refl _) _)⟩
    · have q : (!b2) = false := by assumption
      have q' : b2 = true := by simpa using q
      have q1 : er = 0 := by assumption
      rw [HFL.out, ← hb1, q', q1]; rfl
    · rw [HP.out]
    · rw [HP.out]
  · refine bodyPost_ret (v := .tuple #[noMsg, .int .i64 2]) (by simp [results, Try.results19, go_sem, t0, t1, t2, t3, t4, t5, t6, t7]) rfl ⟨.inr ⟨?_, rfl⟩, ((((((((B3.setCell (p := ⟨w.heap.size, 0, none⟩) (Nat.le_refl _) _).setCell (p := ⟨w.heap.size, 1, none⟩) (Nat.le_refl _) _).setCell (p := ⟨w.heap.size, 2, none⟩) (Nat.le_refl _) _).setCell (p := ⟨w.heap.size, 3, none⟩) (Nat.le_refl _) _).setCell (p := ⟨w.heap.size, 4, none⟩) (Nat.le_refl _) _).setCell (p := ⟨w.heap.size, 5, none⟩) (Nat.le_refl _) _).setCell (p := ⟨w.heap.size, 6, none⟩) (Nat.le_refl _) _).setCell (p := ⟨w.heap.size, 7, none⟩) (Nat.le_refl _) _)⟩
    have q : ¬ er = 0 := by assumption
    rw [HFL.out, ← hb1, beq_eq_false_iff_ne.2 q, Bool.false_and]
end Go.Proofs.Ytpecfjejfkcolaa

/- The law's book where it holds lists of Moves alone: what lies in it; stays. -/
namespace Go.Proofs.Ytpecfjejfkcolaa
open Go.RowKit Go.Shelf
set_option linter.unusedVariables false

/-- a Move that is a mark -/
def mkMv (c : ByteArray) : Mv := ⟨0, 0, c, 0⟩
/-- a list of n marks, its array below block 'top' -/
def MarkedM (w : World) (top : Nat) (v : Value) (c : ByteArray) : Prop :=
  ∃ n, w.ownsRow 0 43 4 v n (flatV (List.replicate n (mkMv c))) ∧ n ≤ 3000000 ∧ ∀ g, v.ownBlock = some g → g < top
theorem rep_split (x : Mv) {n j : Nat} (h : j < n) : List.replicate n x = List.replicate j x ++ x :: List.replicate (n - (j + 1)) x := by
  rw [← List.replicate_succ, List.replicate_append_replicate, show j + (n - (j + 1) + 1) = n by omega]
theorem MarkedM.slice {w : World} {top : Nat} {v : Value} {c : ByteArray} (h : MarkedM w top v c) : ∃ ao n cap, v = .slice ao n cap ∧ n ≤ 3000000 ∧ (0 < n → ∃ g, ao = some ⟨g, 0, none⟩ ∧ ∀ j, j < n →
    w.cell? ⟨g, j * 4, none⟩ = some (.int .i64 0) ∧ w.cell? ⟨g, j * 4 + 1, none⟩ = some (.int .i64 0) ∧ w.cell? ⟨g, j * 4 + 2, none⟩ = some (.string c) ∧ w.cell? ⟨g, j * 4 + 3, none⟩ = some (.int .i64 0)) := by
  obtain ⟨n, hown, hn, _⟩ := h
  have h2 := hown
  rcases hown.2 with ⟨rfl, h0⟩ | ⟨g, cap, cur, rfl, _⟩
  · exact ⟨none, 0, 0, rfl, by omega, fun h => by omega⟩
  · refine ⟨_, n, cap, rfl, hn, fun _ => ⟨g, rfl, fun j hj => ?_⟩⟩
    have q := flatV_get (List.replicate j (mkMv c)) (List.replicate (n - (j + 1)) (mkMv c)) (mkMv c) j (by simp)
    rw [← rep_split (mkMv c) hj] at q
    exact ⟨(h2.cellAt _ (by omega)).trans q.1, (h2.cellAt _ (by omega)).trans q.2.1, (h2.cellAt _ (by omega)).trans q.2.2.1, (h2.cellAt _ (by omega)).trans q.2.2.2⟩
theorem MarkedM.mono {w : World} {top top' : Nat} {v : Value} {x : ByteArray} (h : MarkedM w top v x) (ht : top ≤ top') : MarkedM w top' v x := by
  obtain ⟨n, h1, h2, h3⟩ := h
  exact ⟨n, h1, h2, fun g hg => Nat.lt_of_lt_of_le (h3 g hg) ht⟩
theorem MarkedM.kept {w w' : World} {top : Nat} {v : Value} {x : ByteArray} {row : Option Nat} (h : MarkedM w top v x) (hg : w.grownBy w' row) (hne : v.ownBlock = none ∨ v.ownBlock ≠ row) : MarkedM w' top v x := by
  obtain ⟨n, h1, h2, h3⟩ := h
  exact ⟨n, h1.kept hg hne, h2, h3⟩
/-- the mark of a place -/
def markM (i : Nat) : ByteArray := markB (i / 4 * 4)

/-- THE BOOK (its lists of Moves; of the others there are none): block K; its own row from 'base' on; the lists' arrays below 'top'. -/
structure BookM (w : World) (K base top : Nat) (L : List Value) : Prop where
  book : ∃ kv, w.heap[K]? = some (.cells #[.slice none 0 0, kv, .slice none 0 0] 28 (0, 0)) ∧ w.ownsRow base 37 1 kv L.length L
  lists : ∀ i (h : i < L.length), MarkedM w top L[i] (markM i)
  top_le : top ≤ w.heap.size
theorem BookM.below {w w' : World} {K base top : Nat} {L : List Value} (h : BookM w K base top L) (hb : Below w.heap.size w w') : BookM w' K base top L := by
  obtain ⟨⟨kv, h1, h2⟩, h3, h4⟩ := h
  refine ⟨⟨kv, (hb.block K (lt_of_block h1)).trans h1, ownsRow_below h2 hb⟩, fun i hi => (h3 i hi).kept (grownBy_below hb) ?_, Nat.le_trans h4 hb.size⟩
  cases hv : (L[i]).ownBlock with
  | none => exact .inl rfl
  | some g => exact .inr (by simp)
theorem BookM.top_mono {w : World} {K base top top' : Nat} {L : List Value} (h : BookM w K base top L) (ht : top ≤ top') (hw : top' ≤ w.heap.size) : BookM w K base top' L :=
  ⟨h.book, fun i hi => (h.lists i hi).mono ht, hw⟩
/-- the book's cells, laid open -/
theorem BookM.open' {w : World} {K base top : Nat} {L : List Value} (h : BookM w K base top L) : ∃ ao cap, w.cell? ⟨K, 0, none⟩ = some (.slice none 0 0) ∧ w.cell? ⟨K, 1, none⟩ = some (.slice ao L.length cap) ∧ w.cell? ⟨K, 2, none⟩ = some (.slice none 0 0) ∧ (0 < L.length → ∃ R, ao = some ⟨R, 0, none⟩ ∧ ∀ i (hi : i < L.length), w.cell? ⟨R, i, none⟩ = some L[i]) := by
  obtain ⟨⟨kv, hb, hrow⟩, _, _⟩ := h
  obtain ⟨c0, c1, c2⟩ := cells_of_three hb
  obtain ⟨ao, cap, rfl, hc⟩ := row_slice hrow
  exact ⟨ao, cap, c0, c1, c2, hc⟩
theorem mark_is (c : ByteArray) (z : Int) (n : Nat) (w : World) (hz : z = (n : Int)) (hn : n ≤ 1000000000) (hc : markB n = c) :
    Calls Try.prog 21 #[.int .i64 z] w fun e w' => e = .returned (.string c) ∧ Below w.heap.size w w' := by
  subst hz; rw [← hc]; exact mark_any n w hn

set_option maxRecDepth 100000 in
set_option maxHeartbeats 2000000 in
theorem staysM_any (K base top : Nat) (L : List Value) (w : World) (hk : BookM w K base top L) (hL : L.length ≤ 100000000) :
    Calls Try.prog 8 #[.pointer (some ⟨K, 0, none⟩)] w fun e w' => e = .returned (.bool true) ∧ Below w.heap.size w w' := by
  have HK := hide hk
  obtain ⟨ao0, cap0, c0, c1, c2, _⟩ := hk.open'
  clear hk
  go_enter Try.func8, Try.ntmps8
  go_wp2
  refine wp_loop_rounds 1 ?_
  rw [rounds_succ]
  go_wp2
  clear c0 c1 c2
  go_loopw [5] (fun i wr => ∃ k : Nat, k ≤ L.length ∧ i = .int .i64 (k : Int) ∧ Below w.heap.size w wr) (fun i _ => L.length - (intOf i).toNat)
  case atStart => exact ⟨0, by omega, rfl, Below.refl _ _⟩
  case round =>
    obtain ⟨k, hk, rfl, hB⟩ := hrel
    obtain ⟨ao, cap, c0, c1, c2, _⟩ := (HK.out.below hB).open'
    by_cases hlt : k < L.length
    · obtain ⟨c, hc⟩ : ∃ c, markM k = c := ⟨_, rfl⟩
      have HC := hide hc
      clear hc
      have hkB : decide ((k : Int) < (L.length : Int)) = true := by simp; omega
      go_wp2_with (go_at_call 21; refine (mark_is c _ (k / 4 * 4) _ (by omega) (by omega) HC.out).mono ?_; rintro e w2 ⟨rfl, hb2⟩)
      clear c0 c1 c2
      have hbW : Below w.heap.size w (w2.alloc (.cells #[.int .i64 0, .int .i64 0, .string c, .int .i64 0] 43)) := (hB.trans (hb2.mono hB.size)).alloc (Nat.le_trans hB.size hb2.size) _
      have HX := World.alloc_heap_new w2 (.cells #[.int .i64 0, .int .i64 0, .string c, .int .i64 0] 43 (0, 0))
      have x0 := box_read (i := 0) HX rfl
      have x1 := box_read (i := 1) HX rfl
      have x2 := box_read (i := 2) HX rfl
      have x3 := box_read (i := 3) HX rfl
      obtain ⟨X, hX⟩ : ∃ X, w2.heap.size = X := ⟨_, rfl⟩
      rw [hX] at x0 x1 x2 x3 ⊢
      obtain ⟨W, hW⟩ : ∃ W, w2.alloc (.cells #[.int .i64 0, .int .i64 0, .string c, .int .i64 0] 43) = W := ⟨_, rfl⟩
      rw [hW] at x0 x1 x2 x3 hbW ⊢
      clear HX
      have HKW := HK.out.below hbW
      obtain ⟨ao, cap, c0, c1, c2, hcells⟩ := HKW.open'
      obtain ⟨R, rfl, hcell⟩ := hcells (by omega)
      have ck := hcell k hlt
      have hl := HKW.lists k hlt
      rw [HC.out] at hl
      obtain ⟨ao2, n, cap2, hv, hn, hel⟩ := hl.slice
      rw [hv] at ck
      have HEL := hide hel
      have HV := hide hv
      have HHX := hide hX
      have HHW := hide hW
      clear hcell hel hv hl hcells HKW hX hW
      go_loopw [7] (fun i wr => ∃ (j m : Nat), j ≤ n ∧ i = .int .i64 (j : Int) ∧ wr = W.drewN m) (fun i _ => n - (intOf i).toNat)
      case atStart => exact ⟨0, 0, by omega, rfl, rfl⟩
      case round =>
        obtain ⟨j, m, hj, rfl, rfl⟩ := hrel
        by_cases hjl : j < n
        · obtain ⟨g, rfl, hcj⟩ := HEL.out (by omega)
          obtain ⟨y0, y1, y2, y3⟩ := hcj j hjl
          clear hcj
          have i0 : (0 : Int) ≤ (j : Int) := by omega
          have i1 : (j : Int) < (n : Int) := by omega
          have i2 : (0 : Int) ≤ (k : Int) := by omega
          have i3 : (k : Int) < (L.length : Int) := by omega
          go_wp2
          go_quiet (fail)
          go_wp2
          go_roundw
          case rel => exact ⟨j + 1, m + nq, by omega, by go_num, rfl⟩
          case measure => simp [intOf]; omega
        · go_wp2
          go_roundw
          case rel => exact ⟨k + 1, by omega, by go_num, hbW.trans (below_drewN' _ _ |>.mono hbW.size)⟩
          case measure => simp [intOf]; omega
    · go_wp2
      refine wp_loop_rounds 1 ?_
      rw [rounds_succ]
      go_wp2
      go_ret
      exact ⟨rfl, hB⟩
end Go.Proofs.Ytpecfjejfkcolaa
