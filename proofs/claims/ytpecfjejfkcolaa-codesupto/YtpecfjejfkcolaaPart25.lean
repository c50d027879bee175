import Derived.Test.YtpecfjejfkcolaaPart24
/- Reading undoes writing, and writing reading: Moves, messages. -/
namespace Go.Proofs.Ytpecfjejfkcolaa
set_option linter.unusedVariables false

def movesE : List Mv → ByteArray
  | [] => ⟨#[]⟩
  | x :: l => oneB x.node ++ (mvB x.prep x.chain x.by' ++ movesE l)
theorem movesB_eq : ∀ (l : List Mv) (s : ByteArray), movesB s l = s ++ movesE l
  | [], s => (app_nil s).symm
  | x :: l, s => by rw [movesB, movesB_eq l, movesE, ByteArray.append_assoc, ByteArray.append_assoc]
theorem moveB_enc {p b h r : Int} {c : ByteArray} (node : Int) (t : ByteArray) (sh : Bool) (hm : mvOk p c b h r = true) (hr : r ≤ 9) : moveB node (h * 3).toNat (mvB p c b ++ t) sh = (⟨node, p, c, b⟩, t, sh) := by
  rw [mvOk_iff] at hm
  unfold moveB
  rcases hm with ⟨rfl, hc, rfl⟩ | ⟨hp, h0, h1, hc, hb⟩
  · have e : mvB (-1) c 0 = oneB 0 := rfl
    rw [e, numB_one t sh (by omega) (by omega), if_pos rfl]
    have ec : c = ByteArray.empty := ByteArray.ext (Array.eq_empty_of_size_eq_zero hc)
    rw [ec]
  · have e : mvB p c b ++ t = oneB (p + 1) ++ (c ++ (oneB b ++ t)) := by
      unfold mvB
      rw [if_neg hp, ByteArray.append_assoc, ByteArray.append_assoc]
    rw [e, numB_one _ sh (by omega) (by omega)]
    dsimp only
    rw [if_neg (by omega), textB_app _ sh (show c.size = (h * 3).toNat by omega)]
    dsimp only
    rw [numB_one _ sh (by omega) (by omega)]
    dsimp only
    rw [show p + 1 - 1 = p by omega]
theorem readMoves_enc {h r : Int} (hr : r ≤ 9) : ∀ (l : List Mv) (z : Int) (t : ByteArray) (sh : Bool), riseOk h r z l = true → readMoves (h * 3).toNat l.length (movesE l ++ t) sh = (l, t, sh)
  | [], z, t, sh, _ => by
    rw [List.length_nil, readMoves]
    have e : movesE [] ++ t = t := ba_ext (by rw [data_app]; rfl)
    rw [e]
  | x :: l, z, t, sh, hz => by
    rw [riseOk, Bool.and_eq_true, Bool.and_eq_true, decide_eq_true_eq] at hz
    rw [List.length_cons, readMoves, movesE, ByteArray.append_assoc, ByteArray.append_assoc]
    try dsimp only
    rw [numB_one _ sh (by omega) (by omega)]
    dsimp only
    rw [moveB_enc x.node _ sh hz.2.1 hr]
    dsimp only
    rw [readMoves_enc hr l _ t sh hz.2.2]
theorem moveB_inv {node : Int} {n : Nat} {s t : ByteArray} {sh : Bool} {x : Mv} (h : moveB node n s sh = (x, t, false)) : sh = false ∧ x.node = node ∧ s = mvB x.prep x.chain x.by' ++ t := by
  unfold moveB at h
  obtain ⟨p0, s1, sh1, h1⟩ : ∃ p s1 sh1, numB s sh = (p, s1, sh1) := ⟨_, _, _, rfl⟩
  rw [h1] at h
  dsimp only at h
  split at h
  · rename_i h0
    simp only [Prod.mk.injEq] at h
    obtain ⟨rfl, rfl, rfl⟩ := h
    obtain ⟨e1, e2, _⟩ := numB_inv h1
    refine ⟨e1, rfl, ?_⟩
    rw [e2, h0]; rfl
  · rename_i h0
    obtain ⟨c, s2, sh2, h2⟩ : ∃ c s2 sh2, textB n s1 sh1 = (c, s2, sh2) := ⟨_, _, _, rfl⟩
    rw [h2] at h
    dsimp only at h
    obtain ⟨y, s3, sh3, h3⟩ : ∃ c s3 sh3, numB s2 sh2 = (c, s3, sh3) := ⟨_, _, _, rfl⟩
    rw [h3] at h
    simp only [Prod.mk.injEq] at h
    obtain ⟨rfl, rfl, rfl⟩ := h
    obtain ⟨rfl, e3, _⟩ := numB_inv h3
    obtain ⟨rfl, e2, _⟩ := textB_inv h2
    obtain ⟨e1, e0, _⟩ := numB_inv h1
    refine ⟨e1, rfl, ?_⟩
    dsimp only
    unfold mvB
    rw [if_neg (by omega), show p0 - 1 + 1 = p0 by omega, ByteArray.append_assoc, ByteArray.append_assoc, ← e3, ← e2, ← e0]
theorem readMoves_inv (n : Nat) : ∀ (k : Nat) (s t : ByteArray) (sh : Bool) (l : List Mv), readMoves n k s sh = (l, t, false) → sh = false ∧ s = movesE l ++ t ∧ l.length = k
  | 0, s, t, sh, l, h => by
    rw [readMoves] at h
    simp only [Prod.mk.injEq] at h
    obtain ⟨rfl, rfl, rfl⟩ := h
    exact ⟨rfl, ba_ext (by rw [data_app]; rfl), rfl⟩
  | k + 1, s, t, sh, l, h => by
    rw [readMoves] at h
    try dsimp only at h
    obtain ⟨nd, s1, sh1, h1⟩ : ∃ p s1 sh1, numB s sh = (p, s1, sh1) := ⟨_, _, _, rfl⟩
    rw [h1] at h
    dsimp only at h
    obtain ⟨x, s2, sh2, h2⟩ : ∃ x s2 sh2, moveB nd n s1 sh1 = (x, s2, sh2) := ⟨_, _, _, rfl⟩
    rw [h2] at h
    dsimp only at h
    obtain ⟨l', s3, sh3, h3⟩ : ∃ x s3 sh3, readMoves n k s2 sh2 = (x, s3, sh3) := ⟨_, _, _, rfl⟩
    rw [h3] at h
    simp only [Prod.mk.injEq] at h
    obtain ⟨rfl, rfl, rfl⟩ := h
    obtain ⟨rfl, e3, e4⟩ := readMoves_inv n k _ _ _ _ h3
    obtain ⟨rfl, e5, e2⟩ := moveB_inv h2
    obtain ⟨e1, e0, _⟩ := numB_inv h1
    refine ⟨e1, ?_, by rw [List.length_cons, e4]⟩
    rw [movesE, ByteArray.append_assoc, ByteArray.append_assoc, ← e3, ← e2, e5, ← e0]

theorem read_head {m : Mg} (t : ByteArray) (h1 : 1 ≤ m.kind ∧ m.kind ≤ 6) (h2 : 0 ≤ m.frm ∧ m.frm ≤ 6) (h3 : 1 ≤ m.height ∧ m.height ≤ 7) (h4 : 0 ≤ m.round ∧ m.round ≤ 9) : readMsg (headB m ++ t) false = readBody m.kind m.frm m.height m.round (m.height * 3).toNat t false := by
  have e : headB m ++ t = oneB m.kind ++ (oneB m.frm ++ (oneB m.height ++ (oneB m.round ++ t))) := by
    unfold headB
    rw [ByteArray.append_assoc, ByteArray.append_assoc, ByteArray.append_assoc]
  unfold readMsg
  rw [e, numB_one _ _ (by omega) (by omega)]
  dsimp only
  rw [numB_one _ _ (by omega) (by omega)]
  dsimp only
  rw [numB_one _ _ (by omega) (by omega)]
  dsimp only
  rw [numB_one _ _ (by omega) (by omega)]
theorem mg_eta {k f h r p b : Int} {c : ByteArray} {l : List Mv} {m : Mg} (h1 : m.kind = k) (h2 : m.frm = f) (h3 : m.height = h) (h4 : m.round = r) (h5 : m.chain = c) (h6 : m.prep = p) (h7 : m.by' = b) (h8 : m.moves = l) : (⟨k, f, h, r, c, p, b, l⟩ : Mg) = m := by
  subst h1 h2 h3 h4 h5 h6 h7 h8; rfl
theorem empty_of {c : ByteArray} (h : c.size = 0) : c = ⟨#[]⟩ := ByteArray.ext (Array.eq_empty_of_size_eq_zero h)
/-- READING UNDOES WRITING. -/
theorem readMsg_enc {m : Mg} (hm : mayB m = true) : readMsg (encB m) false = (m, ⟨#[]⟩, false) := by
  have hf := may_facts hm
  obtain ⟨f1, f2, f3, f4, f5, f6, f7, f8, f9⟩ := hf
  by_cases k1 : m.kind = 1
  · obtain ⟨_, a1, a2, a3, a4, a5⟩ := (may1_iff k1).1 hm
    rw [enc1_eq k1, movesB_eq, ByteArray.append_assoc, ByteArray.append_assoc, read_head _ f1 f2 f3 f4]
    unfold readBody
    rw [if_pos k1, textB_app _ _ (show m.chain.size = (m.height * 3).toNat by omega)]
    dsimp only
    rw [numB_one _ _ (by omega) (by omega)]
    dsimp only
    have e := readMoves_enc (h := m.height) (r := m.round) (by omega) m.moves (-1) ⟨#[]⟩ false a5
    rw [app_nil] at e
    rw [Int.toNat_natCast, e]
    rw [mg_eta rfl rfl rfl rfl rfl a2.1 a2.2 rfl]
  by_cases k2 : m.kind = 2 ∨ m.kind = 3
  · obtain ⟨_, a1, a2, a3, a4⟩ := (may23_iff k2).1 hm
    rw [enc23_eq k2, read_head _ f1 f2 f3 f4]
    unfold readBody
    rw [if_neg k1, if_pos k2]
    have e := textB_app (n := (m.height * 3).toNat) (c := m.chain) ⟨#[]⟩ false (by omega)
    rw [app_nil] at e
    rw [e]
    dsimp only
    rw [mg_eta rfl rfl rfl rfl rfl a2 a3 (List.length_eq_zero_iff.1 a4)]
  by_cases k4 : m.kind = 4
  · obtain ⟨_, a1, a2⟩ := (may4_iff k4).1 hm
    rw [enc4_eq k4, read_head _ f1 f2 f3 f4]
    unfold readBody
    rw [if_neg k1, if_neg k2, if_pos k4]
    have e := moveB_enc m.frm ⟨#[]⟩ false a1 (by omega)
    rw [app_nil] at e
    rw [e]
    dsimp only
    rw [mg_eta rfl rfl rfl rfl rfl rfl rfl (List.length_eq_zero_iff.1 a2)]
  by_cases k5 : m.kind = 5
  · obtain ⟨_, a1, a2, a3⟩ := (may5_iff k5).1 hm
    rw [enc5_eq k5, ByteArray.append_assoc, read_head _ f1 f2 f3 f4]
    unfold readBody
    rw [if_neg k1, if_neg k2, if_neg k4, if_pos k5, textB_app _ _ (show m.chain.size = (m.height * 3).toNat by omega)]
    dsimp only
    have e := numB_one (n := m.by') ⟨#[]⟩ false (by omega) (by omega)
    rw [app_nil] at e
    rw [e]
    dsimp only
    rw [mg_eta rfl rfl rfl rfl rfl a2 rfl (List.length_eq_zero_iff.1 a3)]
  · have k6 : m.kind = 6 := by omega
    obtain ⟨_, a1, a2, a3, a4⟩ := (may6_iff k6).1 hm
    rw [enc6_eq k6, ← app_nil (headB m), read_head _ f1 f2 f3 f4]
    unfold readBody
    rw [if_neg k1, if_neg k2, if_neg k4, if_neg k5, mg_eta rfl rfl rfl rfl (empty_of a1) a2.1 a2.2 (List.length_eq_zero_iff.1 a3)]
/-- WRITING UNDOES READING. -/
theorem readBody_inv {k f h r : Int} {n : Nat} {s t : ByteArray} {sh : Bool} {m : Mg} (he : readBody k f h r n s sh = (m, t, false)) : sh = false ∧ m.kind = k ∧ m.frm = f ∧ m.height = h ∧ m.round = r ∧ headB m ++ s = encB m ++ t := by
  unfold readBody at he
  split at he
  · rename_i k1
    obtain ⟨c, s1, sh1, h1⟩ : ∃ c s1 sh1, textB n s sh = (c, s1, sh1) := ⟨_, _, _, rfl⟩
    rw [h1] at he
    dsimp only at he
    obtain ⟨q, s2, sh2, h2⟩ : ∃ c s2 sh2, numB s1 sh1 = (c, s2, sh2) := ⟨_, _, _, rfl⟩
    rw [h2] at he
    dsimp only at he
    obtain ⟨l, s3, sh3, h3⟩ : ∃ c s3 sh3, readMoves n q.toNat s2 sh2 = (c, s3, sh3) := ⟨_, _, _, rfl⟩
    rw [h3] at he
    simp only [Prod.mk.injEq] at he
    obtain ⟨rfl, rfl, rfl⟩ := he
    obtain ⟨rfl, e3, e4⟩ := readMoves_inv n _ _ _ _ _ h3
    obtain ⟨rfl, e2, e5, e6⟩ := numB_inv h2
    obtain ⟨e0, e1, _⟩ := textB_inv h1
    refine ⟨e0, rfl, rfl, rfl, rfl, ?_⟩
    rw [enc1_eq k1, movesB_eq]
    dsimp only
    rw [ByteArray.append_assoc, ByteArray.append_assoc, ByteArray.append_assoc, e4, Int.toNat_of_nonneg e5, ← e3, ← e2, ← e1]
  · rename_i k1
    split at he
    · rename_i k2
      obtain ⟨c, s1, sh1, h1⟩ : ∃ c s1 sh1, textB n s sh = (c, s1, sh1) := ⟨_, _, _, rfl⟩
      rw [h1] at he
      simp only [Prod.mk.injEq] at he
      obtain ⟨rfl, rfl, rfl⟩ := he
      obtain ⟨e0, e1, _⟩ := textB_inv h1
      refine ⟨e0, rfl, rfl, rfl, rfl, ?_⟩
      rw [enc23_eq k2, ByteArray.append_assoc]
      dsimp only
      rw [← e1]
    · rename_i k2
      split at he
      · rename_i k4
        obtain ⟨x, s1, sh1, h1⟩ : ∃ c s1 sh1, moveB f n s sh = (c, s1, sh1) := ⟨_, _, _, rfl⟩
        rw [h1] at he
        simp only [Prod.mk.injEq] at he
        obtain ⟨rfl, rfl, rfl⟩ := he
        obtain ⟨e0, _, e1⟩ := moveB_inv h1
        refine ⟨e0, rfl, rfl, rfl, rfl, ?_⟩
        rw [enc4_eq k4, ByteArray.append_assoc]
        dsimp only
        rw [← e1]
      · rename_i k4
        split at he
        · rename_i k5
          obtain ⟨c, s1, sh1, h1⟩ : ∃ c s1 sh1, textB n s sh = (c, s1, sh1) := ⟨_, _, _, rfl⟩
          rw [h1] at he
          dsimp only at he
          obtain ⟨q, s2, sh2, h2⟩ : ∃ c s2 sh2, numB s1 sh1 = (c, s2, sh2) := ⟨_, _, _, rfl⟩
          rw [h2] at he
          simp only [Prod.mk.injEq] at he
          obtain ⟨rfl, rfl, rfl⟩ := he
          obtain ⟨rfl, e2, _⟩ := numB_inv h2
          obtain ⟨e0, e1, _⟩ := textB_inv h1
          refine ⟨e0, rfl, rfl, rfl, rfl, ?_⟩
          rw [enc5_eq k5, ByteArray.append_assoc, ByteArray.append_assoc]
          dsimp only
          rw [← e2, ← e1]
        · rename_i k5
          simp only [Prod.mk.injEq] at he
          obtain ⟨rfl, rfl, rfl⟩ := he
          refine ⟨rfl, rfl, rfl, rfl, rfl, ?_⟩
          unfold encB
          rw [if_neg k1, if_neg k2, if_neg k4, if_neg k5]
theorem readMsg_inv {s t : ByteArray} {m : Mg} (he : readMsg s false = (m, t, false)) : s = encB m ++ t := by
  unfold readMsg at he
  obtain ⟨k, s1, sh1, h1⟩ : ∃ c s1 sh1, numB s false = (c, s1, sh1) := ⟨_, _, _, rfl⟩
  rw [h1] at he
  dsimp only at he
  obtain ⟨f, s2, sh2, h2⟩ : ∃ c s2 sh2, numB s1 sh1 = (c, s2, sh2) := ⟨_, _, _, rfl⟩
  rw [h2] at he
  dsimp only at he
  obtain ⟨h, s3, sh3, h3⟩ : ∃ c s3 sh3, numB s2 sh2 = (c, s3, sh3) := ⟨_, _, _, rfl⟩
  rw [h3] at he
  dsimp only at he
  obtain ⟨r, s4, sh4, h4⟩ : ∃ c s4 sh4, numB s3 sh3 = (c, s4, sh4) := ⟨_, _, _, rfl⟩
  rw [h4] at he
  dsimp only at he
  obtain ⟨rfl, rfl, rfl, rfl, rfl, e⟩ := readBody_inv he
  obtain ⟨rfl, e4, _⟩ := numB_inv h4
  obtain ⟨rfl, e3, _⟩ := numB_inv h3
  obtain ⟨rfl, e2, _⟩ := numB_inv h2
  obtain ⟨_, e1, _⟩ := numB_inv h1
  rw [← e, e1, e2, e3, e4]
  unfold headB
  rw [ByteArray.append_assoc, ByteArray.append_assoc, ByteArray.append_assoc]
/-- what the program takes is what is written -/
theorem okMsg_spec {s : ByteArray} : okMsg s = true ↔ ∃ m, mayB m = true ∧ encB m = s ∧ (readMsg s false).1 = m := by
  rw [okMsg_iff]
  constructor
  · rintro ⟨h1, h2, h3⟩
    refine ⟨_, h3, ?_, rfl⟩
    have e : readMsg s false = ((readMsg s false).1, (readMsg s false).2.1, false) := Prod.ext rfl (Prod.ext rfl h1)
    have e2 := readMsg_inv e
    rw [empty_of h2, app_nil] at e2
    exact e2.symm
  · rintro ⟨m, h1, rfl, _⟩
    rw [readMsg_enc h1]
    exact ⟨rfl, rfl, h1⟩
end Go.Proofs.Ytpecfjejfkcolaa

/- The document's reading by places undoes writing. -/
namespace Go.Proofs.Ytpecfjejfkcolaa
set_option linter.unusedVariables false

theorem at_app (a b : ByteArray) (i : Nat) : atB (a ++ b) (a.size + i) = atB b i := by
  unfold atB
  by_cases h : i < b.size
  · rw [dif_pos h, dif_pos (by rw [ByteArray.size_append]; omega), ByteArray.getElem_append_right (by omega)]
    congr 3
    omega
  · rw [dif_neg h, dif_neg (by rw [ByteArray.size_append]; omega)]
theorem at_one {n : Int} (t : ByteArray) (h0 : 0 ≤ n) (h1 : n < 256) : atB (oneB n ++ t) 0 = n := by
  unfold atB
  rw [dif_pos (by rw [ByteArray.size_append, oneB_size]; omega), ByteArray.getElem_append_left (by rw [oneB_size]; omega)]
  exact byte_of h0 h1
theorem cut_app (a b : ByteArray) (i j : Nat) : (a ++ b).extract (a.size + i) (a.size + j) = b.extract i j := by
  apply ba_ext
  rw [data_cut, data_cut, data_app, ← size_len a, List.drop_append, List.drop_eq_nil_of_le (by omega), List.nil_append, show a.data.toList.length + i - a.data.toList.length = i by omega, show a.data.toList.length + j - (a.data.toList.length + i) = j - i by omega]
theorem cut_one (c t : ByteArray) (n : Nat) (h : c.size = n) : (c ++ t).extract 0 n = c := by
  apply ba_ext
  rw [data_cut, data_app, ← h, ← size_len c]
  simp
/-- the same, at a place that is named otherwise -/
theorem at_at {s a b : ByteArray} {i j : Nat} (hs : s = a ++ b) (h : i = a.size + j) : atB s i = atB b j := by rw [hs, h, at_app]
theorem cut_at {s a b : ByteArray} {i j k l : Nat} (hs : s = a ++ b) (h : i = a.size + j) (h2 : k = a.size + l) : s.extract i k = b.extract j l := by rw [hs, h, h2, cut_app]

def posMoves (n : Nat) : Nat → ByteArray → Nat → List Mv
  | 0, _, _ => []
  | k + 1, s, i => ⟨atB s i, (moveAtB s (i + 1) n).1, (moveAtB s (i + 1) n).2.1, (moveAtB s (i + 1) n).2.2.1⟩ :: posMoves n k s (i + 1 + (moveAtB s (i + 1) n).2.2.2.toNat)
/-- the document's message, by places -/
def posMsg (s : ByteArray) : Mg :=
  let k := atB s 0
  let f := atB s 1
  let h := atB s 2
  let r := atB s 3
  let n := (3 * h).toNat
  if k = 1 then ⟨k, f, h, r, s.extract 4 (4 + n), -1, 0, posMoves n (atB s (4 + n)).toNat s (5 + n)⟩
  else if k = 2 ∨ k = 3 then ⟨k, f, h, r, s.extract 4 (4 + n), -1, 0, []⟩
  else if k = 4 then ⟨k, f, h, r, (moveAtB s 4 n).2.1, (moveAtB s 4 n).1, (moveAtB s 4 n).2.2.1, []⟩
  else if k = 5 then ⟨k, f, h, r, s.extract 4 (4 + n), -1, atB s (4 + n), []⟩
  else ⟨k, f, h, r, ⟨#[]⟩, -1, 0, []⟩
theorem mvB_len {p b h r : Int} {c : ByteArray} {n : Nat} (hm : mvOk p c b h r = true) (hn : n = (3 * h).toNat) : (mvB p c b).size = if p = -1 then 1 else 2 + n := by
  rw [mvOk_iff] at hm
  unfold mvB
  rcases hm with ⟨rfl, hc, rfl⟩ | ⟨hp, h0, h1, hc, hb⟩
  · rfl
  · rw [if_neg hp, if_neg hp, ByteArray.size_append, ByteArray.size_append, oneB_size, oneB_size]; omega
theorem moveAt_enc {p b h r : Int} {c : ByteArray} {s pre t : ByteArray} {i n : Nat} (hs : s = pre ++ (mvB p c b ++ t)) (hi : i = pre.size) (hm : mvOk p c b h r = true) (hr : r ≤ 9) (hn : n = (3 * h).toNat) :
    moveAtB s i n = (p, c, b, ((mvB p c b).size : Int)) := by
  have hl := mvB_len hm hn
  have hm' := hm
  rw [mvOk_iff] at hm
  unfold moveAtB
  rcases hm with ⟨rfl, hc, rfl⟩ | ⟨hp, h0, h1, hc, hb⟩
  · have e0 : atB s i = 0 := by
      rw [at_at (j := 0) hs (by omega)]
      exact at_one t (by omega) (by omega)
    rw [if_pos e0, hl, empty_of hc]
    rfl
  · have e : mvB p c b ++ t = oneB (p + 1) ++ (c ++ (oneB b ++ t)) := by
      unfold mvB
      rw [if_neg hp, ByteArray.append_assoc, ByteArray.append_assoc]
    rw [e] at hs
    have hs2 : s = (pre ++ oneB (p + 1)) ++ (c ++ (oneB b ++ t)) := by rw [hs, ByteArray.append_assoc]
    have hs3 : s = (pre ++ oneB (p + 1) ++ c) ++ (oneB b ++ t) := by rw [hs]; simp only [ByteArray.append_assoc]
    have z2 : (pre ++ oneB (p + 1)).size = i + 1 := by rw [ByteArray.size_append, oneB_size, hi]
    have z3 : (pre ++ oneB (p + 1) ++ c).size = i + 1 + n := by rw [ByteArray.size_append, z2]; omega
    have e0 : atB s i = p + 1 := by
      rw [at_at (j := 0) hs (by omega)]
      exact at_one _ (by omega) (by omega)
    have e1 : s.extract (i + 1) (i + 1 + n) = c := by
      rw [cut_at (j := 0) (l := n) hs2 (by omega) (by omega)]
      exact cut_one _ _ _ (by omega)
    have e2 : atB s (i + 1 + n) = b := by
      rw [at_at (j := 0) hs3 (by omega)]
      exact at_one _ (by omega) (by omega)
    rw [e0, if_neg (by omega), e1, e2, hl, if_neg hp, show p + 1 - 1 = p by omega]
    simp
theorem posMoves_enc {h r : Int} {n : Nat} (hr : r ≤ 9) (hn : n = (3 * h).toNat) : ∀ (l : List Mv) (z : Int) (s pre t : ByteArray) (i : Nat), s = pre ++ (movesE l ++ t) → i = pre.size → riseOk h r z l = true → posMoves n l.length s i = l
  | [], _, _, _, _, _, _, _, _ => rfl
  | x :: l, z, s, pre, t, i, hs, hi, hz => by
    rw [riseOk, Bool.and_eq_true, Bool.and_eq_true, decide_eq_true_eq] at hz
    have hs1 : s = pre ++ (oneB x.node ++ (mvB x.prep x.chain x.by' ++ (movesE l ++ t))) := by
      rw [hs, movesE, ByteArray.append_assoc, ByteArray.append_assoc]
    have hs2 : s = (pre ++ oneB x.node) ++ (mvB x.prep x.chain x.by' ++ (movesE l ++ t)) := by rw [hs1, ByteArray.append_assoc]
    have hs3 : s = (pre ++ oneB x.node ++ mvB x.prep x.chain x.by') ++ (movesE l ++ t) := by rw [hs1]; simp only [ByteArray.append_assoc]
    have z2 : i + 1 = (pre ++ oneB x.node).size := by rw [ByteArray.size_append, oneB_size, hi]
    have e0 : atB s i = x.node := by
      rw [at_at (j := 0) hs1 (by omega)]
      exact at_one _ (by omega) (by omega)
    have e1 := moveAt_enc hs2 z2 hz.2.1 hr hn
    rw [List.length_cons, posMoves, e0, e1]
    dsimp only
    rw [posMoves_enc hr hn l _ s _ t _ hs3 (by rw [ByteArray.size_append, ← z2, Int.toNat_natCast]) hz.2.2]

/-- READING BY PLACES UNDOES WRITING. -/
theorem posMsg_enc {m : Mg} (hm : mayB m = true) : posMsg (encB m) = m := by
  obtain ⟨f1, f2, f3, f4, f5, f6, f7, f8, f9⟩ := may_facts hm
  have head : ∀ t : ByteArray, encB m = headB m ++ t → atB (encB m) 0 = m.kind ∧ atB (encB m) 1 = m.frm ∧ atB (encB m) 2 = m.height ∧ atB (encB m) 3 = m.round := by
    intro t ht
    have e : encB m = oneB m.kind ++ (oneB m.frm ++ (oneB m.height ++ (oneB m.round ++ t))) := by
      rw [ht]; unfold headB; simp only [ByteArray.append_assoc]
    have s1 : encB m = (oneB m.kind) ++ (oneB m.frm ++ (oneB m.height ++ (oneB m.round ++ t))) := e
    have s2 : encB m = (oneB m.kind ++ oneB m.frm) ++ (oneB m.height ++ (oneB m.round ++ t)) := by rw [e]; simp only [ByteArray.append_assoc]
    have s3 : encB m = (oneB m.kind ++ oneB m.frm ++ oneB m.height) ++ (oneB m.round ++ t) := by rw [e]; simp only [ByteArray.append_assoc]
    refine ⟨?_, ?_, ?_, ?_⟩
    · rw [e]; exact at_one _ (by omega) (by omega)
    · rw [at_at (j := 0) s1 (by rw [oneB_size])]; exact at_one _ (by omega) (by omega)
    · rw [at_at (j := 0) s2 (by rw [ByteArray.size_append, oneB_size, oneB_size])]; exact at_one _ (by omega) (by omega)
    · rw [at_at (j := 0) s3 (by rw [ByteArray.size_append, ByteArray.size_append, oneB_size, oneB_size, oneB_size])]; exact at_one _ (by omega) (by omega)
  by_cases k1 : m.kind = 1
  · obtain ⟨_, a1, a2, a3, a4, a5⟩ := (may1_iff k1).1 hm
    have e : encB m = headB m ++ (m.chain ++ (oneB m.moves.length ++ movesE m.moves)) := by rw [enc1_eq k1, movesB_eq]; simp only [ByteArray.append_assoc]
    obtain ⟨h0, h1, h2, h3⟩ := head _ e
    have e2 : encB m = (headB m ++ m.chain) ++ (oneB m.moves.length ++ movesE m.moves) := by rw [e]; simp only [ByteArray.append_assoc]
    have e3 : encB m = (headB m ++ m.chain ++ oneB m.moves.length) ++ (movesE m.moves ++ ⟨#[]⟩) := by rw [e, app_nil]; simp only [ByteArray.append_assoc]
    have c1 : (encB m).extract 4 (4 + (3 * m.height).toNat) = m.chain := by
      rw [cut_at (j := 0) (l := (3 * m.height).toNat) e (by rw [headB_size]) (by rw [headB_size])]
      exact cut_one _ _ _ (by omega)
    have c2 : atB (encB m) (4 + (3 * m.height).toNat) = m.moves.length := by
      rw [at_at (j := 0) e2 (by rw [ByteArray.size_append, headB_size]; omega)]
      exact at_one _ (by omega) (by omega)
    have c3 := posMoves_enc (h := m.height) (r := m.round) (by omega) rfl m.moves (-1) (encB m) _ _ (5 + (3 * m.height).toNat) e3 (by rw [ByteArray.size_append, ByteArray.size_append, headB_size, oneB_size]; omega) a5
    unfold posMsg
    dsimp only
    rw [h0, h1, h2, h3, if_pos k1, c1, c2, Int.toNat_natCast, c3]
    exact mg_eta rfl rfl rfl rfl rfl a2.1 a2.2 rfl
  by_cases k2 : m.kind = 2 ∨ m.kind = 3
  · obtain ⟨_, a1, a2, a3, a4⟩ := (may23_iff k2).1 hm
    have e : encB m = headB m ++ m.chain := enc23_eq k2
    have e' : encB m = headB m ++ (m.chain ++ ⟨#[]⟩) := by rw [app_nil]; exact e
    obtain ⟨h0, h1, h2, h3⟩ := head _ e
    have c1 : (encB m).extract 4 (4 + (3 * m.height).toNat) = m.chain := by
      rw [cut_at (j := 0) (l := (3 * m.height).toNat) e' (by rw [headB_size]) (by rw [headB_size])]
      exact cut_one _ _ _ (by omega)
    unfold posMsg
    dsimp only
    rw [h0, h1, h2, h3, if_neg k1, if_pos k2, c1]
    exact mg_eta rfl rfl rfl rfl rfl a2 a3 (List.length_eq_zero_iff.1 a4)
  by_cases k4 : m.kind = 4
  · obtain ⟨_, a1, a2⟩ := (may4_iff k4).1 hm
    have e : encB m = headB m ++ (mvB m.prep m.chain m.by' ++ ⟨#[]⟩) := by rw [app_nil]; exact enc4_eq k4
    obtain ⟨h0, h1, h2, h3⟩ := head _ e
    have c1 := moveAt_enc (i := 4) (n := (3 * m.height).toNat) e (by rw [headB_size]) a1 (by omega) rfl
    unfold posMsg
    dsimp only
    rw [h0, h1, h2, h3, if_neg k1, if_neg k2, if_pos k4, c1]
    exact mg_eta rfl rfl rfl rfl rfl rfl rfl (List.length_eq_zero_iff.1 a2)
  by_cases k5 : m.kind = 5
  · obtain ⟨_, a1, a2, a3⟩ := (may5_iff k5).1 hm
    have e : encB m = headB m ++ (m.chain ++ (oneB m.by' ++ ⟨#[]⟩)) := by rw [app_nil, enc5_eq k5]; simp only [ByteArray.append_assoc]
    have e2 : encB m = (headB m ++ m.chain) ++ (oneB m.by' ++ ⟨#[]⟩) := by rw [e]; simp only [ByteArray.append_assoc]
    obtain ⟨h0, h1, h2, h3⟩ := head _ e
    have c1 : (encB m).extract 4 (4 + (3 * m.height).toNat) = m.chain := by
      rw [cut_at (j := 0) (l := (3 * m.height).toNat) e (by rw [headB_size]) (by rw [headB_size])]
      exact cut_one _ _ _ (by omega)
    have c2 : atB (encB m) (4 + (3 * m.height).toNat) = m.by' := by
      rw [at_at (j := 0) e2 (by rw [ByteArray.size_append, headB_size]; omega)]
      exact at_one _ (by omega) (by omega)
    unfold posMsg
    dsimp only
    rw [h0, h1, h2, h3, if_neg k1, if_neg k2, if_neg k4, if_pos k5, c1, c2]
    exact mg_eta rfl rfl rfl rfl rfl a2 rfl (List.length_eq_zero_iff.1 a3)
  · have k6 : m.kind = 6 := by omega
    obtain ⟨_, a1, a2, a3, a4⟩ := (may6_iff k6).1 hm
    have e : encB m = headB m ++ ⟨#[]⟩ := by rw [app_nil]; exact enc6_eq k6
    obtain ⟨h0, h1, h2, h3⟩ := head _ e
    unfold posMsg
    dsimp only
    rw [h0, h1, h2, h3, if_neg k1, if_neg k2, if_neg k4, if_neg k5]
    exact mg_eta rfl rfl rfl rfl (empty_of a1) a2.1 a2.2 (List.length_eq_zero_iff.1 a3)
/-- THE DOCUMENT TAKES WHAT THE PROGRAM TAKES, AND READS THE SAME. -/
theorem pos_iff {s : ByteArray} : (mayB (posMsg s) = true ∧ encB (posMsg s) = s) ↔ okMsg s = true := by
  constructor
  · rintro ⟨h1, h2⟩
    refine okMsg_spec.2 ⟨_, h1, h2, ?_⟩
    have e := readMsg_enc h1
    rw [h2] at e
    rw [e]
  · intro h
    obtain ⟨m, h1, rfl, _⟩ := okMsg_spec.1 h
    rw [posMsg_enc h1]
    exact ⟨h1, rfl⟩
theorem pos_same {s : ByteArray} (h : okMsg s = true) : posMsg s = (readMsg s false).1 := by
  obtain ⟨m, h1, rfl, h2⟩ := okMsg_spec.1 h
  rw [posMsg_enc h1, h2]
end Go.Proofs.Ytpecfjejfkcolaa
