import Derived.Test.YtpecfjejfkcolaaPart22
/- wire.Decode. -/
namespace Go.Proofs.Ytpecfjejfkcolaa
open Go.RowKit Go.Shelf
set_option linter.unusedVariables false

theorem textB_size (n : Nat) (s : ByteArray) (sh : Bool) : (textB n s sh).1.size ≤ n := by
  unfold textB
  split
  · exact Nat.zero_le _
  · show (s.extract 0 n).size ≤ n
    rw [ByteArray.size_extract]; omega
theorem moveB_size (node : Int) (n : Nat) (s : ByteArray) (sh : Bool) : (moveB node n s sh).1.chain.size ≤ n := by
  unfold moveB
  split
  · exact Nat.zero_le _
  · exact textB_size n _ _
theorem readMoves_sizes (n : Nat) : ∀ (k : Nat) (s : ByteArray) (sh : Bool), (readMoves n k s sh).1.length = k ∧ ∀ x ∈ (readMoves n k s sh).1, x.chain.size ≤ n
  | 0, s, sh => ⟨rfl, fun x hx => by simp [readMoves] at hx⟩
  | k + 1, s, sh => by
    rw [readMoves]
    dsimp only
    obtain ⟨i1, i2⟩ := readMoves_sizes n k (moveB (numB s sh).1 n (numB s sh).2.1 (numB s sh).2.2).2.1 (moveB (numB s sh).1 n (numB s sh).2.1 (numB s sh).2.2).2.2
    refine ⟨by rw [List.length_cons, i1], fun x hx => ?_⟩
    rcases List.mem_cons.1 hx with rfl | hx
    · exact moveB_size _ _ _ _
    · exact i2 x hx
theorem readMsg_sizes (s : ByteArray) (sh : Bool) : (readMsg s sh).1.chain.size ≤ 1000 ∧ (readMsg s sh).1.moves.length ≤ 255 ∧ ∀ x ∈ (readMsg s sh).1.moves, x.chain.size ≤ 1000 := by
  unfold readMsg
  dsimp only
  have hc := numB_bound (numB (numB s sh).2.1 (numB s sh).2.2).2.1 (numB (numB s sh).2.1 (numB s sh).2.2).2.2
  generalize numB (numB (numB s sh).2.1 (numB s sh).2.2).2.1 (numB (numB s sh).2.1 (numB s sh).2.2).2.2 = c at *
  generalize numB c.2.1 c.2.2 = d
  have hn : (c.1 * 3).toNat ≤ 1000 := by omega
  generalize (c.1 * 3).toNat = n at *
  unfold readBody
  dsimp only
  have none_of : ∀ x ∈ ([] : List Mv), x.chain.size ≤ 1000 := fun x hx => by cases hx
  have ht := textB_size n d.2.1 d.2.2
  split
  · have hu := numB_bound (textB n d.2.1 d.2.2).2.1 (textB n d.2.1 d.2.2).2.2
    obtain ⟨i1, i2⟩ := readMoves_sizes n (numB (textB n d.2.1 d.2.2).2.1 (textB n d.2.1 d.2.2).2.2).1.toNat (numB (textB n d.2.1 d.2.2).2.1 (textB n d.2.1 d.2.2).2.2).2.1 (numB (textB n d.2.1 d.2.2).2.1 (textB n d.2.1 d.2.2).2.2).2.2
    exact ⟨Nat.le_trans ht hn, by rw [i1]; omega, fun x hx => Nat.le_trans (i2 x hx) hn⟩
  · split
    · exact ⟨Nat.le_trans ht hn, Nat.zero_le _, none_of⟩
    · split
      · exact ⟨Nat.le_trans (moveB_size _ _ _ _) hn, Nat.zero_le _, none_of⟩
      · split
        · exact ⟨Nat.le_trans ht hn, Nat.zero_le _, none_of⟩
        · exact ⟨Nat.zero_le _, Nat.zero_le _, none_of⟩
/-- the row of Moves, as wire.MayBe asks for it -/
theorem MovesRow.at {w w' : World} {v : Value} {l : List Mv} (h : MovesRow w w' v l) (h1 : ∀ x ∈ l, x.chain.size ≤ 1000) (h2 : l.length ≤ 255) : MovesAt w' v l := by
  refine ⟨?_, fun x hx => Nat.le_trans (h1 x hx) (by unfold maxLen; decide), by omega⟩
  rcases h with ⟨rfl, rfl⟩ | ⟨g, rfl, _, hx⟩
  · exact ⟨none, 0, rfl, fun h => absurd h (by simp)⟩
  · refine ⟨_, _, rfl, fun h0 => ⟨g, 0, rfl, lt_of_block hx, fun i hi => ?_⟩⟩
    have e : l = l.take i ++ l[i] :: l.drop (i + 1) := by rw [← List.drop_eq_getElem_cons hi, List.take_append_drop]
    have q := flatV_get (l.take i) (l.drop (i + 1)) l[i] i (by rw [List.length_take]; omega)
    rw [← e] at q
    rw [Nat.zero_add]
    exact ⟨box_read hx (by simpa using q.1), box_read hx (by simpa using q.2.1), box_read hx (by simpa using q.2.2.1), box_read hx (by simpa using q.2.2.2)⟩
theorem MovesRow.below {w W w' : World} {v : Value} {l : List Mv} (h : MovesRow w W v l) (hb : Below W.heap.size W w') : MovesRow w w' v l := by
  rcases h with h | ⟨g, e, h1, h2⟩
  · exact .inl h
  · exact .inr ⟨g, e, h1, (hb.block g (lt_of_block h2)).trans h2⟩

theorem below_of_grown {a b : World} {R : Nat} (h : a.grownBy b (some R)) (hR : a.heap.size ≤ R) : Below a.heap.size a b := ⟨h.os, h.tape, h.output, h.size, fun k hk => h.block k hk (by simp; omega)⟩
/-- is it read whole, and may it be? -/
def okMsg (s : ByteArray) : Bool := !(readMsg s false).2.2 && (decide ((readMsg s false).2.1.size = 0) && mayB (readMsg s false).1)
abbrev noMsg : Value := mgV ⟨0, 0, 0, 0, ⟨#[]⟩, 0, 0, []⟩ (.slice none 0 0)

set_option maxRecDepth 100000 in
set_option maxHeartbeats 4000000 in
theorem wDec_short (s : ByteArray) (w : World) (hs : s.size ≤ maxLen) (hsh : (readMsg s false).2.2 = true) :
    Calls Try.prog 33 #[.string s] w fun e w' => e = .returned (.tuple #[noMsg, .int .i64 2]) ∧ Below w.heap.size w w' := by
  obtain ⟨z1, z2, z3⟩ := readMsg_sizes s false
  have hmsg := fun (R : Nat) (W : World) hr => message_any R s false W hr
  obtain ⟨⟨k, f, h, r, c, p, b, l⟩, t, sh, hrd⟩ : ∃ m t sh, readMsg s false = (m, t, sh) := ⟨_, _, _, rfl⟩
  rw [hrd] at z1 z2 z3 hmsg
  dsimp only at z1 z2 z3 hmsg
  have HMSG := hide hmsg
  have HS := hide hs
  have e1 : sh = true := by rw [hrd] at hsh; exact hsh
  subst e1
  clear hsh
  clear hmsg hs hrd
  have hA := World.alloc_heap_new w (.cells #[.int .i64 0, .int .i64 0, .int .i64 0, .int .i64 0, .string ⟨#[]⟩, .int .i64 0, .int .i64 0, .slice none 0 0] 39 (0, 0))
  have hR : RdAt ((w.alloc (.cells #[.int .i64 0, .int .i64 0, .int .i64 0, .int .i64 0, .string ⟨#[]⟩, .int .i64 0, .int .i64 0, .slice none 0 0] 39)).alloc (.cells #[.string s, .bool false] 102)) (w.heap.size + 1) s false := by
    refine ⟨?_, HS.out⟩
    have := World.alloc_heap_new (w.alloc (.cells #[.int .i64 0, .int .i64 0, .int .i64 0, .int .i64 0, .string ⟨#[]⟩, .int .i64 0, .int .i64 0, .slice none 0 0] 39)) (.cells #[.string s, .bool false] 102 (0, 0))
    rw [World.size_alloc] at this
    exact this
  have HA := hide hA
  have HR := hide hR
  clear hA hR
  go_enter Try.func33, Try.ntmps33
  go_wp2_with (first
    | (go_at_call 52; refine (HMSG.out (w.heap.size + 1) _ HR.out).mono ?_; rintro e w1 ⟨v, rfl, hrow, hr1, hg1⟩; obtain ⟨ao, ln, rfl⟩ := hrow.slice; have HROW := hide hrow; clear hrow; have n1 := hg1.size; rw [World.size_alloc, World.size_alloc] at n1; have a1 := heap_grown hg1 (box_alloc HA.out) (by omega); have G1 := grown_alloc (grown_alloc hg1); have a2 := box_alloc (o' := .cells #[.int .i64 k, .int .i64 f, .int .i64 h, .int .i64 r, .string c, .int .i64 p, .int .i64 b, .slice ao ln ln] 39) a1; have hr2 := hr1.alloc (o := .cells #[.int .i64 k, .int .i64 f, .int .i64 h, .int .i64 r, .string c, .int .i64 p, .int .i64 b, .slice ao ln ln] 39); obtain ⟨y0, y1⟩ := hr2.cells; have x2 := World.alloc_heap_new w1 (.cells #[.int .i64 k, .int .i64 f, .int .i64 h, .int .i64 r, .string c, .int .i64 p, .int .i64 b, .slice ao ln ln] 39 (0, 0)); have t0 := box_read (i := 0) a2 rfl; have e0 := free_of (j := 0) a2; have t1 := box_read (i := 1) a2 rfl; have e1 := free_of (j := 1) a2; have t2 := box_read (i := 2) a2 rfl; have e2 := free_of (j := 2) a2; have t3 := box_read (i := 3) a2 rfl; have e3 := free_of (j := 3) a2; have t4 := box_read (i := 4) a2 rfl; have e4 := free_of (j := 4) a2; have t5 := box_read (i := 5) a2 rfl; have e5 := free_of (j := 5) a2; have t6 := box_read (i := 6) a2 rfl; have e6 := free_of (j := 6) a2; have t7 := box_read (i := 7) a2 rfl; have e7 := free_of (j := 7) a2))
  refine bodyPost_ret (v := .tuple #[noMsg, .int .i64 2]) (by simp [results, Try.results33, go_sem, t0, t1, t2, t3, t4, t5, t6, t7]) rfl ⟨rfl, ?_⟩
  have B1 := below_of_grown G1 (Nat.le_succ _)
  exact (((((((((B1.alloc (by have := B1.size; omega) _).setCell (p := ⟨w.heap.size, 0, none⟩) (Nat.le_refl _) _).setCell (p := ⟨w.heap.size, 1, none⟩) (Nat.le_refl _) _).setCell (p := ⟨w.heap.size, 2, none⟩) (Nat.le_refl _) _).setCell (p := ⟨w.heap.size, 3, none⟩) (Nat.le_refl _) _).setCell (p := ⟨w.heap.size, 4, none⟩) (Nat.le_refl _) _).setCell (p := ⟨w.heap.size, 5, none⟩) (Nat.le_refl _) _).setCell (p := ⟨w.heap.size, 6, none⟩) (Nat.le_refl _) _).setCell (p := ⟨w.heap.size, 7, none⟩) (Nat.le_refl _) _)

set_option maxRecDepth 100000 in
set_option maxHeartbeats 4000000 in
theorem wDec_long (s : ByteArray) (w : World) (hs : s.size ≤ maxLen) (hsh : (readMsg s false).2.2 = false) (hne : ¬ (readMsg s false).2.1.size = 0) :
    Calls Try.prog 33 #[.string s] w fun e w' => e = .returned (.tuple #[noMsg, .int .i64 2]) ∧ Below w.heap.size w w' := by
  obtain ⟨z1, z2, z3⟩ := readMsg_sizes s false
  have hmsg := fun (R : Nat) (W : World) hr => message_any R s false W hr
  obtain ⟨⟨k, f, h, r, c, p, b, l⟩, t, sh, hrd⟩ : ∃ m t sh, readMsg s false = (m, t, sh) := ⟨_, _, _, rfl⟩
  rw [hrd] at z1 z2 z3 hmsg
  dsimp only at z1 z2 z3 hmsg
  have HMSG := hide hmsg
  have HS := hide hs
  have e1 : sh = false := by rw [hrd] at hsh; exact hsh
  subst e1
  clear hsh
  have htb : (t.toList == []) = false := by
    rw [hrd] at hne
    have h0 : ¬ t.toList = [] := fun e => hne (bytes_nil.1 e)
    simpa using h0
  clear hne
  clear hmsg hs hrd
  have hA := World.alloc_heap_new w (.cells #[.int .i64 0, .int .i64 0, .int .i64 0, .int .i64 0, .string ⟨#[]⟩, .int .i64 0, .int .i64 0, .slice none 0 0] 39 (0, 0))
  have hR : RdAt ((w.alloc (.cells #[.int .i64 0, .int .i64 0, .int .i64 0, .int .i64 0, .string ⟨#[]⟩, .int .i64 0, .int .i64 0, .slice none 0 0] 39)).alloc (.cells #[.string s, .bool false] 102)) (w.heap.size + 1) s false := by
    refine ⟨?_, HS.out⟩
    have := World.alloc_heap_new (w.alloc (.cells #[.int .i64 0, .int .i64 0, .int .i64 0, .int .i64 0, .string ⟨#[]⟩, .int .i64 0, .int .i64 0, .slice none 0 0] 39)) (.cells #[.string s, .bool false] 102 (0, 0))
    rw [World.size_alloc] at this
    exact this
  have HA := hide hA
  have HR := hide hR
  clear hA hR
  go_enter Try.func33, Try.ntmps33
  go_wp2_with (first
    | (go_at_call 52; refine (HMSG.out (w.heap.size + 1) _ HR.out).mono ?_; rintro e w1 ⟨v, rfl, hrow, hr1, hg1⟩; obtain ⟨ao, ln, rfl⟩ := hrow.slice; have HROW := hide hrow; clear hrow; have n1 := hg1.size; rw [World.size_alloc, World.size_alloc] at n1; have a1 := heap_grown hg1 (box_alloc HA.out) (by omega); have G1 := grown_alloc (grown_alloc hg1); have a2 := box_alloc (o' := .cells #[.int .i64 k, .int .i64 f, .int .i64 h, .int .i64 r, .string c, .int .i64 p, .int .i64 b, .slice ao ln ln] 39) a1; have hr2 := hr1.alloc (o := .cells #[.int .i64 k, .int .i64 f, .int .i64 h, .int .i64 r, .string c, .int .i64 p, .int .i64 b, .slice ao ln ln] 39); obtain ⟨y0, y1⟩ := hr2.cells; have x2 := World.alloc_heap_new w1 (.cells #[.int .i64 k, .int .i64 f, .int .i64 h, .int .i64 r, .string c, .int .i64 p, .int .i64 b, .slice ao ln ln] 39 (0, 0)); have t0 := box_read (i := 0) a2 rfl; have e0 := free_of (j := 0) a2; have t1 := box_read (i := 1) a2 rfl; have e1 := free_of (j := 1) a2; have t2 := box_read (i := 2) a2 rfl; have e2 := free_of (j := 2) a2; have t3 := box_read (i := 3) a2 rfl; have e3 := free_of (j := 3) a2; have t4 := box_read (i := 4) a2 rfl; have e4 := free_of (j := 4) a2; have t5 := box_read (i := 5) a2 rfl; have e5 := free_of (j := 5) a2; have t6 := box_read (i := 6) a2 rfl; have e6 := free_of (j := 6) a2; have t7 := box_read (i := 7) a2 rfl; have e7 := free_of (j := 7) a2))
  refine bodyPost_ret (v := .tuple #[noMsg, .int .i64 2]) (by simp [results, Try.results33, go_sem, t0, t1, t2, t3, t4, t5, t6, t7]) rfl ⟨rfl, ?_⟩
  have B1 := below_of_grown G1 (Nat.le_succ _)
  exact (((((((((B1.alloc (by have := B1.size; omega) _).setCell (p := ⟨w.heap.size, 0, none⟩) (Nat.le_refl _) _).setCell (p := ⟨w.heap.size, 1, none⟩) (Nat.le_refl _) _).setCell (p := ⟨w.heap.size, 2, none⟩) (Nat.le_refl _) _).setCell (p := ⟨w.heap.size, 3, none⟩) (Nat.le_refl _) _).setCell (p := ⟨w.heap.size, 4, none⟩) (Nat.le_refl _) _).setCell (p := ⟨w.heap.size, 5, none⟩) (Nat.le_refl _) _).setCell (p := ⟨w.heap.size, 6, none⟩) (Nat.le_refl _) _).setCell (p := ⟨w.heap.size, 7, none⟩) (Nat.le_refl _) _)

set_option maxRecDepth 100000 in
set_option maxHeartbeats 4000000 in
theorem wDec_not (s : ByteArray) (w : World) (hs : s.size ≤ maxLen) (hsh : (readMsg s false).2.2 = false) (hne : (readMsg s false).2.1.size = 0) (hm : mayB (readMsg s false).1 = false) :
    Calls Try.prog 33 #[.string s] w fun e w' => e = .returned (.tuple #[noMsg, .int .i64 2]) ∧ Below w.heap.size w w' := by
  obtain ⟨z1, z2, z3⟩ := readMsg_sizes s false
  have hmsg := fun (R : Nat) (W : World) hr => message_any R s false W hr
  obtain ⟨⟨k, f, h, r, c, p, b, l⟩, t, sh, hrd⟩ : ∃ m t sh, readMsg s false = (m, t, sh) := ⟨_, _, _, rfl⟩
  rw [hrd] at z1 z2 z3 hmsg
  dsimp only at z1 z2 z3 hmsg
  have HMSG := hide hmsg
  have HS := hide hs
  have e1 : sh = false := by rw [hrd] at hsh; exact hsh
  subst e1
  clear hsh
  have htb : (t.toList == []) = true := by
    rw [hrd] at hne
    have h0 : t.toList = [] := bytes_nil.2 hne
    rw [h0]; rfl
  have HM : Hid (mayB ⟨k, f, h, r, c, p, b, l⟩ = false) := by rw [hrd] at hm; exact hm
  clear hne hm
  clear hmsg hs hrd
  have hA := World.alloc_heap_new w (.cells #[.int .i64 0, .int .i64 0, .int .i64 0, .int .i64 0, .string ⟨#[]⟩, .int .i64 0, .int .i64 0, .slice none 0 0] 39 (0, 0))
  have hR : RdAt ((w.alloc (.cells #[.int .i64 0, .int .i64 0, .int .i64 0, .int .i64 0, .string ⟨#[]⟩, .int .i64 0, .int .i64 0, .slice none 0 0] 39)).alloc (.cells #[.string s, .bool false] 102)) (w.heap.size + 1) s false := by
    refine ⟨?_, HS.out⟩
    have := World.alloc_heap_new (w.alloc (.cells #[.int .i64 0, .int .i64 0, .int .i64 0, .int .i64 0, .string ⟨#[]⟩, .int .i64 0, .int .i64 0, .slice none 0 0] 39)) (.cells #[.string s, .bool false] 102 (0, 0))
    rw [World.size_alloc] at this
    exact this
  have HA := hide hA
  have HR := hide hR
  clear hA hR
  go_enter Try.func33, Try.ntmps33
  go_wp2_with (first
    | (go_at_call 52; refine (HMSG.out (w.heap.size + 1) _ HR.out).mono ?_; rintro e w1 ⟨v, rfl, hrow, hr1, hg1⟩; obtain ⟨ao, ln, rfl⟩ := hrow.slice; have HROW := hide hrow; clear hrow; have n1 := hg1.size; rw [World.size_alloc, World.size_alloc] at n1; have a1 := heap_grown hg1 (box_alloc HA.out) (by omega); have G1 := grown_alloc (grown_alloc hg1); have a2 := box_alloc (o' := .cells #[.int .i64 k, .int .i64 f, .int .i64 h, .int .i64 r, .string c, .int .i64 p, .int .i64 b, .slice ao ln ln] 39) a1; have hr2 := hr1.alloc (o := .cells #[.int .i64 k, .int .i64 f, .int .i64 h, .int .i64 r, .string c, .int .i64 p, .int .i64 b, .slice ao ln ln] 39); obtain ⟨y0, y1⟩ := hr2.cells; have x2 := World.alloc_heap_new w1 (.cells #[.int .i64 k, .int .i64 f, .int .i64 h, .int .i64 r, .string c, .int .i64 p, .int .i64 b, .slice ao ln ln] 39 (0, 0)); have t0 := box_read (i := 0) a2 rfl; have e0 := free_of (j := 0) a2; have t1 := box_read (i := 1) a2 rfl; have e1 := free_of (j := 1) a2; have t2 := box_read (i := 2) a2 rfl; have e2 := free_of (j := 2) a2; have t3 := box_read (i := 3) a2 rfl; have e3 := free_of (j := 3) a2; have t4 := box_read (i := 4) a2 rfl; have e4 := free_of (j := 4) a2; have t5 := box_read (i := 5) a2 rfl; have e5 := free_of (j := 5) a2; have t6 := box_read (i := 6) a2 rfl; have e6 := free_of (j := 6) a2; have t7 := box_read (i := 7) a2 rfl; have e7 := free_of (j := 7) a2)
    | (go_at_call 47; refine (mayBe_is false ⟨k, f, h, r, c, p, b, l⟩ _ _ ((HROW.out.below ((Below.refl _ w1).alloc (Nat.le_refl _) _)).at z3 z2) (Nat.le_trans z1 (by unfold maxLen; decide)) HM.out).mono ?_; rintro e w3 ⟨rfl, hb3⟩; have a3 := (hb3.block _ (lt_of_block a2)).trans a2; have x3 := (hb3.block _ (lt_of_block x2)).trans x2; have t0 := box_read (i := 0) a3 rfl; have e0 := free_of (j := 0) a3; have t1 := box_read (i := 1) a3 rfl; have e1 := free_of (j := 1) a3; have t2 := box_read (i := 2) a3 rfl; have e2 := free_of (j := 2) a3; have t3 := box_read (i := 3) a3 rfl; have e3 := free_of (j := 3) a3; have t4 := box_read (i := 4) a3 rfl; have e4 := free_of (j := 4) a3; have t5 := box_read (i := 5) a3 rfl; have e5 := free_of (j := 5) a3; have t6 := box_read (i := 6) a3 rfl; have e6 := free_of (j := 6) a3; have t7 := box_read (i := 7) a3 rfl; have e7 := free_of (j := 7) a3; have c0 := box_read (i := 0) x3 rfl; have c1 := box_read (i := 1) x3 rfl; have c2 := box_read (i := 2) x3 rfl; have c3 := box_read (i := 3) x3 rfl; have c4 := box_read (i := 4) x3 rfl; have c5 := box_read (i := 5) x3 rfl; have c6 := box_read (i := 6) x3 rfl; have c7 := box_read (i := 7) x3 rfl))
  refine bodyPost_ret (v := .tuple #[noMsg, .int .i64 2]) (by simp [results, Try.results33, go_sem, t0, t1, t2, t3, t4, t5, t6, t7]) rfl ⟨rfl, ?_⟩
  have B1 := below_of_grown G1 (Nat.le_succ _)
  exact ((((((((((B1.alloc (by have := B1.size; omega) _).trans (hb3.mono (Nat.le_trans B1.size (by simp)))).setCell (p := ⟨w.heap.size, 0, none⟩) (Nat.le_refl _) _).setCell (p := ⟨w.heap.size, 1, none⟩) (Nat.le_refl _) _).setCell (p := ⟨w.heap.size, 2, none⟩) (Nat.le_refl _) _).setCell (p := ⟨w.heap.size, 3, none⟩) (Nat.le_refl _) _).setCell (p := ⟨w.heap.size, 4, none⟩) (Nat.le_refl _) _).setCell (p := ⟨w.heap.size, 5, none⟩) (Nat.le_refl _) _).setCell (p := ⟨w.heap.size, 6, none⟩) (Nat.le_refl _) _).setCell (p := ⟨w.heap.size, 7, none⟩) (Nat.le_refl _) _)

set_option maxRecDepth 100000 in
set_option maxHeartbeats 4000000 in
theorem wDec_ok (s : ByteArray) (w : World) (hs : s.size ≤ maxLen) (hsh : (readMsg s false).2.2 = false) (hne : (readMsg s false).2.1.size = 0) (hm : mayB (readMsg s false).1 = true) :
    Calls Try.prog 33 #[.string s] w fun e w' => ∃ v, e = .returned (.tuple #[mgV (readMsg s false).1 v, .int .i64 0]) ∧ MovesRow w w' v (readMsg s false).1.moves ∧ Below w.heap.size w w' := by
  obtain ⟨z1, z2, z3⟩ := readMsg_sizes s false
  have hmsg := fun (R : Nat) (W : World) hr => message_any R s false W hr
  obtain ⟨⟨k, f, h, r, c, p, b, l⟩, t, sh, hrd⟩ : ∃ m t sh, readMsg s false = (m, t, sh) := ⟨_, _, _, rfl⟩
  rw [hrd] at z1 z2 z3 hmsg ⊢
  dsimp only at z1 z2 z3 hmsg
  have HMSG := hide hmsg
  have HS := hide hs
  have e1 : sh = false := by rw [hrd] at hsh; exact hsh
  subst e1
  clear hsh
  have htb : (t.toList == []) = true := by
    rw [hrd] at hne
    have h0 : t.toList = [] := bytes_nil.2 hne
    rw [h0]; rfl
  have HM : Hid (mayB ⟨k, f, h, r, c, p, b, l⟩ = true) := by rw [hrd] at hm; exact hm
  clear hne hm
  clear hmsg hs hrd
  have hA := World.alloc_heap_new w (.cells #[.int .i64 0, .int .i64 0, .int .i64 0, .int .i64 0, .string ⟨#[]⟩, .int .i64 0, .int .i64 0, .slice none 0 0] 39 (0, 0))
  have hR : RdAt ((w.alloc (.cells #[.int .i64 0, .int .i64 0, .int .i64 0, .int .i64 0, .string ⟨#[]⟩, .int .i64 0, .int .i64 0, .slice none 0 0] 39)).alloc (.cells #[.string s, .bool false] 102)) (w.heap.size + 1) s false := by
    refine ⟨?_, HS.out⟩
    have := World.alloc_heap_new (w.alloc (.cells #[.int .i64 0, .int .i64 0, .int .i64 0, .int .i64 0, .string ⟨#[]⟩, .int .i64 0, .int .i64 0, .slice none 0 0] 39)) (.cells #[.string s, .bool false] 102 (0, 0))
    rw [World.size_alloc] at this
    exact this
  have HA := hide hA
  have HR := hide hR
  clear hA hR
  go_enter Try.func33, Try.ntmps33
  go_wp2_with (first
    | (go_at_call 52; refine (HMSG.out (w.heap.size + 1) _ HR.out).mono ?_; rintro e w1 ⟨v, rfl, hrow, hr1, hg1⟩; obtain ⟨ao, ln, rfl⟩ := hrow.slice; have HROW := hide hrow; clear hrow; have n1 := hg1.size; rw [World.size_alloc, World.size_alloc] at n1; have a1 := heap_grown hg1 (box_alloc HA.out) (by omega); have G1 := grown_alloc (grown_alloc hg1); have a2 := box_alloc (o' := .cells #[.int .i64 k, .int .i64 f, .int .i64 h, .int .i64 r, .string c, .int .i64 p, .int .i64 b, .slice ao ln ln] 39) a1; have hr2 := hr1.alloc (o := .cells #[.int .i64 k, .int .i64 f, .int .i64 h, .int .i64 r, .string c, .int .i64 p, .int .i64 b, .slice ao ln ln] 39); obtain ⟨y0, y1⟩ := hr2.cells; have x2 := World.alloc_heap_new w1 (.cells #[.int .i64 k, .int .i64 f, .int .i64 h, .int .i64 r, .string c, .int .i64 p, .int .i64 b, .slice ao ln ln] 39 (0, 0)); have t0 := box_read (i := 0) a2 rfl; have e0 := free_of (j := 0) a2; have t1 := box_read (i := 1) a2 rfl; have e1 := free_of (j := 1) a2; have t2 := box_read (i := 2) a2 rfl; have e2 := free_of (j := 2) a2; have t3 := box_read (i := 3) a2 rfl; have e3 := free_of (j := 3) a2; have t4 := box_read (i := 4) a2 rfl; have e4 := free_of (j := 4) a2; have t5 := box_read (i := 5) a2 rfl; have e5 := free_of (j := 5) a2; have t6 := box_read (i := 6) a2 rfl; have e6 := free_of (j := 6) a2; have t7 := box_read (i := 7) a2 rfl; have e7 := free_of (j := 7) a2)
    | (go_at_call 47; refine (mayBe_is true ⟨k, f, h, r, c, p, b, l⟩ _ _ ((HROW.out.below ((Below.refl _ w1).alloc (Nat.le_refl _) _)).at z3 z2) (Nat.le_trans z1 (by unfold maxLen; decide)) HM.out).mono ?_; rintro e w3 ⟨rfl, hb3⟩; have a3 := (hb3.block _ (lt_of_block a2)).trans a2; have x3 := (hb3.block _ (lt_of_block x2)).trans x2; have t0 := box_read (i := 0) a3 rfl; have e0 := free_of (j := 0) a3; have t1 := box_read (i := 1) a3 rfl; have e1 := free_of (j := 1) a3; have t2 := box_read (i := 2) a3 rfl; have e2 := free_of (j := 2) a3; have t3 := box_read (i := 3) a3 rfl; have e3 := free_of (j := 3) a3; have t4 := box_read (i := 4) a3 rfl; have e4 := free_of (j := 4) a3; have t5 := box_read (i := 5) a3 rfl; have e5 := free_of (j := 5) a3; have t6 := box_read (i := 6) a3 rfl; have e6 := free_of (j := 6) a3; have t7 := box_read (i := 7) a3 rfl; have e7 := free_of (j := 7) a3; have c0 := box_read (i := 0) x3 rfl; have c1 := box_read (i := 1) x3 rfl; have c2 := box_read (i := 2) x3 rfl; have c3 := box_read (i := 3) x3 rfl; have c4 := box_read (i := 4) x3 rfl; have c5 := box_read (i := 5) x3 rfl; have c6 := box_read (i := 6) x3 rfl; have c7 := box_read (i := 7) x3 rfl))
  refine bodyPost_ret (v := .tuple #[mgV ⟨k, f, h, r, c, p, b, l⟩ (.slice ao ln ln), .int .i64 0]) (by simp [results, Try.results33, go_sem, t0, t1, t2, t3, t4, t5, t6, t7]) rfl ?_
  have B1 := below_of_grown G1 (Nat.le_succ _)
  refine ⟨_, rfl, ((HROW.out.below ((Below.refl _ w1).alloc (Nat.le_refl _) _)).below hb3).mono (by simp; omega) ?_, ((((((((((B1.alloc (by have := B1.size; omega) _).trans (hb3.mono (Nat.le_trans B1.size (by simp)))).setCell (p := ⟨w.heap.size, 0, none⟩) (Nat.le_refl _) _).setCell (p := ⟨w.heap.size, 1, none⟩) (Nat.le_refl _) _).setCell (p := ⟨w.heap.size, 2, none⟩) (Nat.le_refl _) _).setCell (p := ⟨w.heap.size, 3, none⟩) (Nat.le_refl _) _).setCell (p := ⟨w.heap.size, 4, none⟩) (Nat.le_refl _) _).setCell (p := ⟨w.heap.size, 5, none⟩) (Nat.le_refl _) _).setCell (p := ⟨w.heap.size, 6, none⟩) (Nat.le_refl _) _).setCell (p := ⟨w.heap.size, 7, none⟩) (Nat.le_refl _) _)⟩
  intro g o hg ho
  simp only [World.size_alloc] at hg
  exact heap_other (heap_other (heap_other (heap_other (heap_other (heap_other (heap_other (heap_other ho (by omega)) (by omega)) (by omega)) (by omega)) (by omega)) (by omega)) (by omega)) (by omega)
end Go.Proofs.Ytpecfjejfkcolaa
