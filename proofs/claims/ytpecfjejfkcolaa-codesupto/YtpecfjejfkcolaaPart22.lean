import Derived.Test.YtpecfjejfkcolaaPart21
/- wire.Decode. -/
namespace Go.Proofs.Ytpecfjejfkcolaa
open Go.RowKit Go.Shelf
set_option linter.unusedVariables false

/-- a message from the front, by its kind -/
def readBody (k f h r : Int) (n : Nat) (s : ByteArray) (sh : Bool) : Mg × ByteArray × Bool :=
  if k = 1 then
    let t := textB n s sh
    let u := numB t.2.1 t.2.2
    let l := readMoves n u.1.toNat u.2.1 u.2.2
    (⟨k, f, h, r, t.1, -1, 0, l.1⟩, l.2)
  else if k = 2 ∨ k = 3 then
    let t := textB n s sh
    (⟨k, f, h, r, t.1, -1, 0, []⟩, t.2)
  else if k = 4 then
    let x := moveB f n s sh
    (⟨k, f, h, r, x.1.chain, x.1.prep, x.1.by', []⟩, x.2)
  else if k = 5 then
    let t := textB n s sh
    let u := numB t.2.1 t.2.2
    (⟨k, f, h, r, t.1, -1, u.1, []⟩, u.2)
  else (⟨k, f, h, r, ⟨#[]⟩, -1, 0, []⟩, s, sh)
def readMsg (s : ByteArray) (sh : Bool) : Mg × ByteArray × Bool :=
  let a := numB s sh
  let b := numB a.2.1 a.2.2
  let c := numB b.2.1 b.2.2
  let d := numB c.2.1 c.2.2
  readBody a.1 b.1 c.1 d.1 (c.1 * 3).toNat d.2.1 d.2.2
theorem pair3 {α β γ : Type} (x : α × β × γ) : x = (x.1, x.2.1, x.2.2) := rfl
theorem message_any (R : Nat) (s : ByteArray) (sh : Bool) (w : World) (hr : RdAt w R s sh) :
    Calls Try.prog 52 #[.pointer (some ⟨R, 0, none⟩)] w fun e w' => ∃ v, e = .returned (mgV (readMsg s sh).1 v) ∧ MovesRow w w' v (readMsg s sh).1.moves ∧ RdAt w' R (readMsg s sh).2.1 (readMsg s sh).2.2 ∧ w.grownBy w' (some R) := by
  obtain ⟨k, s1, sh1, h1⟩ : ∃ k s1 sh1, numB s sh = (k, s1, sh1) := ⟨_, _, _, rfl⟩
  obtain ⟨f, s2, sh2, h2⟩ : ∃ k s2 sh2, numB s1 sh1 = (k, s2, sh2) := ⟨_, _, _, rfl⟩
  obtain ⟨h, s3, sh3, h3⟩ : ∃ k s3 sh3, numB s2 sh2 = (k, s3, sh3) := ⟨_, _, _, rfl⟩
  obtain ⟨r, s4, sh4, h4⟩ : ∃ k s4 sh4, numB s3 sh3 = (k, s4, sh4) := ⟨_, _, _, rfl⟩
  have hh := numB_bound s2 sh2
  rw [h3] at hh
  dsimp only at hh
  have e : readMsg s sh = readBody k f h r (h * 3).toNat s4 sh4 := by
    unfold readMsg
    rw [h1]; dsimp only
    rw [h2]; dsimp only
    rw [h3]; dsimp only
    rw [h4]
  rw [e]
  have hz : h * 3 = (((h * 3).toNat : Nat) : Int) := by omega
  have hn : (h * 3).toNat ≤ 1000 := by omega
  unfold readBody
  by_cases k1 : k = 1
  · rw [if_pos k1]
    dsimp only
    have hc := numB_bound (textB (h * 3).toNat s4 sh4).2.1 (textB (h * 3).toNat s4 sh4).2.2
    have hk : numB (textB (h * 3).toNat s4 sh4).2.1 (textB (h * 3).toNat s4 sh4).2.2 = (((numB (textB (h * 3).toNat s4 sh4).2.1 (textB (h * 3).toNat s4 sh4).2.2).1.toNat : Int), (numB (textB (h * 3).toNat s4 sh4).2.1 (textB (h * 3).toNat s4 sh4).2.2).2.1, (numB (textB (h * 3).toNat s4 sh4).2.1 (textB (h * 3).toNat s4 sh4).2.2).2.2) := by
      rw [Int.toNat_of_nonneg hc.1]
    exact msg1 R _ k f h r s s1 s2 s3 s4 sh sh1 sh2 sh3 sh4 _ _ _ _ _ _ _ _ _ w hr h1 h2 h3 h4 hz hn hh (pair3 _) hk (pair3 _) k1
  · rw [if_neg k1]
    have none_of : ∀ {m : Mg} {t : ByteArray} {b : Bool}, m.moves = [] → Calls Try.prog 52 #[.pointer (some ⟨R, 0, none⟩)] w (fun e w' => e = .returned (mgV m (.slice none 0 0)) ∧ RdAt w' R t b ∧ w.grownBy w' (some R)) →
        Calls Try.prog 52 #[.pointer (some ⟨R, 0, none⟩)] w (fun e w' => ∃ v, e = .returned (mgV m v) ∧ MovesRow w w' v m.moves ∧ RdAt w' R t b ∧ w.grownBy w' (some R)) := by
      intro m t b hm hc
      refine hc.mono ?_
      rintro e w' ⟨rfl, h2, h3⟩
      exact ⟨_, rfl, .inl ⟨hm, rfl⟩, h2, h3⟩
    by_cases k2 : k = 2 ∨ k = 3
    · rw [if_pos k2]
      dsimp only
      rcases k2 with k2 | k2
      · exact none_of rfl (msg2 R _ k f h r s s1 s2 s3 s4 sh sh1 sh2 sh3 sh4 _ _ _ w hr h1 h2 h3 h4 hz hn hh (pair3 _) k2)
      · exact none_of rfl (msg3 R _ k f h r s s1 s2 s3 s4 sh sh1 sh2 sh3 sh4 _ _ _ w hr h1 h2 h3 h4 hz hn hh (pair3 _) k2)
    · rw [if_neg k2]
      by_cases k4 : k = 4
      · rw [if_pos k4]
        dsimp only
        exact none_of rfl (msg4 R _ k f h r s s1 s2 s3 s4 sh sh1 sh2 sh3 sh4 _ _ _ _ _ _ w hr h1 h2 h3 h4 hz hn hh (pair3 _) k4)
      · rw [if_neg k4]
        by_cases k5 : k = 5
        · rw [if_pos k5]
          dsimp only
          exact none_of rfl (msg5 R _ k f h r s s1 s2 s3 s4 sh sh1 sh2 sh3 sh4 _ _ _ _ _ _ w hr h1 h2 h3 h4 hz hn hh (pair3 _) (pair3 _) k5)
        · rw [if_neg k5]
          dsimp only
          exact none_of rfl (msg0 R _ k f h r s s1 s2 s3 s4 sh sh1 sh2 sh3 sh4 w hr h1 h2 h3 h4 hz hn hh (by omega))
end Go.Proofs.Ytpecfjejfkcolaa
