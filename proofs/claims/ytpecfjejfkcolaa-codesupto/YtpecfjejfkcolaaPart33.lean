import Derived.Test.YtpecfjejfkcolaaPart32
/- ████ The law Codes: the row. -/
namespace Go.Proofs.Ytpecfjejfkcolaa.codesLaw
open Go.ChangeShapes Go.WideShapes Go.ChangeAt Go.RowKit
open Go.ChangeMaps (open_string shut_string)
open Go.Deep
set_option linter.unusedVariables false

theorem own : ownKnob Try.prog.godebug = none := by kernel_rfl
theorem laidOut : laidOutB Try.prog = true := by kernel_rfl

def noMg : Mg := ⟨0, 0, 0, 0, ⟨#[]⟩, 0, 0, []⟩
/-- messages that came in -/
def MsgsIn (W : World) (v : Value) (ao : Option Addr) (len cap b off : Nat) (M : Nat → Mg) (V : Nat → Value) : Prop :=
  v = .slice ao len cap ∧ len ≤ 1048576 ∧ len ≤ cap ∧ (0 < len → ao = some ⟨b, off, none⟩) ∧ (0 < len → b < W.heap.size) ∧ (∀ i, i < len → MsgAt W b (off + i * 8) (M i) (V i))
/-- texts that came in -/
def TextsIn (W : World) (v : Value) (ao : Option Addr) (len cap b off : Nat) (T : Nat → ByteArray) : Prop :=
  v = .slice ao len cap ∧ len ≤ 1048576 ∧ len ≤ cap ∧ (0 < len → ao = some ⟨b, off, none⟩) ∧ (0 < len → b < W.heap.size) ∧ (∀ i, i < len → W.cell? ⟨b, off + i, none⟩ = some (.string (T i)) ∧ (T i).size ≤ maxLen)

section
variable {H : Type} {enc : TypeId × Value → H} {W : World} {base : Nat} {fuel : Nat}
set_option maxRecDepth 100000 in
theorem open_msgs {v : Value} {d : DataW H × List MemPlace} (h : DataW.trod enc Try.prog W base (fun _ => true) true fuel 33 v.cells.toList = some d) (hv : ∃ a len cap, v = .slice a len cap) (hk : Rows.uptoBulk d.1 ≤ 1048576) : ∃ ao len cap b off M V, MsgsIn W v ao len cap b off M V := by
  obtain ⟨va, vl, vc, rfl⟩ := hv
  rcases open_slice Try.underlying33 h with ⟨hcs, hx⟩ | ⟨a, len, cap, m, n, D, Pl, hcs, hba, hl, hm, hmm, hx, hel⟩
  · simp [Value.cells] at hcs
    obtain ⟨rfl, rfl, rfl⟩ := hcs
    exact ⟨none, 0, 0, 0, 0, fun _ => noMg, fun _ => .bool false, rfl, by omega, by omega, fun h => by omega, fun h => by omega, fun i hi => by omega⟩
  · simp [Value.cells] at hcs
    obtain ⟨rfl, rfl, rfl⟩ := hcs
    rw [hx] at hk
    have hlen : vl ≤ 1048576 := by
      have := Nat.le_trans slice_le hk
      simpa using this
    simp only [if_true] at hmm
    subst hmm
    have hcell : ∀ i, i < vl → ∃ x : Mg × Value, (W.cell? (a.add (i * 8)) = some (.int .i64 x.1.kind) ∧ W.cell? (a.add (i * 8 + 1)) = some (.int .i64 x.1.frm) ∧ W.cell? (a.add (i * 8 + 2)) = some (.int .i64 x.1.height) ∧ W.cell? (a.add (i * 8 + 3)) = some (.int .i64 x.1.round) ∧ W.cell? (a.add (i * 8 + 4)) = some (.string x.1.chain) ∧ W.cell? (a.add (i * 8 + 5)) = some (.int .i64 x.1.prep) ∧ W.cell? (a.add (i * 8 + 6)) = some (.int .i64 x.1.by') ∧ W.cell? (a.add (i * 8 + 7)) = some x.2) ∧ MovesAt W x.2 x.1.moves ∧ x.1.chain.size ≤ maxLen ∧ x.1.moves.length ≤ 1100000 := by
      intro i hi
      obtain ⟨cs', hc1, hc2⟩ := hel i (by omega)
      rw [cellsMg] at hc1
      obtain ⟨_, hcl, hcc⟩ := World.cells?_some hc1
      obtain ⟨x, u, rfl, hrest⟩ := open_msg hc2 (Nat.le_trans (slice_mem (List.mem_map.2 ⟨i, List.mem_range.2 hi, rfl⟩)) hk)
      have e0 := hcc 0 (by omega)
      have e1 := hcc 1 (by omega)
      have e2 := hcc 2 (by omega)
      have e3 := hcc 3 (by omega)
      have e4 := hcc 4 (by omega)
      have e5 := hcc 5 (by omega)
      have e6 := hcc 6 (by omega)
      have e7 := hcc 7 (by omega)
      simp only [List.getElem?_cons_zero, List.getElem?_cons_succ, Addr.add_add, Nat.add_zero] at e0 e1 e2 e3 e4 e5 e6 e7
      exact ⟨(x, u), ⟨e0, e1, e2, e3, e4, e5, e6, e7⟩, hrest⟩
    have : Inhabited (Mg × Value) := ⟨(noMg, .bool false)⟩
    obtain ⟨f, hfun⟩ := choose_lt hcell
    by_cases h0 : 0 < vl
    · obtain ⟨b, off, spot⟩ := a
      have h00 := (hfun 0 h0).1.1
      have hspot : spot = none := by simpa [Addr.add] using World.cell?_spot h00
      subst hspot
      have hb : b < W.heap.size := by
        have := World.block_lt_of_cell? W _ h00
        rw [add_plain] at this
        exact this
      refine ⟨some ⟨b, off, none⟩, vl, m, b, off, fun i => (f i).1, fun i => (f i).2, rfl, hlen, hl, fun _ => rfl, fun _ => hb, fun i hi => ?_⟩
      obtain ⟨⟨g0, g1, g2, g3, g4, g5, g6, g7⟩, hrest⟩ := hfun i hi
      rw [add_plain] at g0 g1 g2 g3 g4 g5 g6 g7
      exact ⟨⟨g0, g1, g2, g3, g4, g5, g6, g7⟩, hrest⟩
    · exact ⟨some a, vl, m, 0, 0, fun _ => noMg, fun _ => .bool false, rfl, hlen, hl, fun h => absurd h h0, fun h => absurd h h0, fun i hi => by omega⟩
set_option maxRecDepth 100000 in
theorem open_texts {v : Value} {d : DataW H × List MemPlace} (h : DataW.trod enc Try.prog W base (fun _ => true) true fuel 34 v.cells.toList = some d) (hv : ∃ a len cap, v = .slice a len cap) (hk : Rows.uptoBulk d.1 ≤ 1048576) : ∃ ao len cap b off T, TextsIn W v ao len cap b off T := by
  obtain ⟨va, vl, vc, rfl⟩ := hv
  rcases open_slice1 Try.underlying34 cells9 h with ⟨hcs, hx⟩ | ⟨a, len, cap, m, n, V, D, Pl, hcs, hba, hl, hm, hmm, hx, hel⟩
  · simp [Value.cells] at hcs
    obtain ⟨rfl, rfl, rfl⟩ := hcs
    exact ⟨none, 0, 0, 0, 0, fun _ => ByteArray.empty, rfl, by omega, by omega, fun h => by omega, fun h => by omega, fun i hi => by omega⟩
  · simp [Value.cells] at hcs
    obtain ⟨rfl, rfl, rfl⟩ := hcs
    rw [hx] at hk
    have hlen : vl ≤ 1048576 := by
      have := Nat.le_trans slice_le hk
      simpa using this
    simp only [if_true] at hmm
    subst hmm
    have hcell : ∀ i, i < vl → ∃ s : ByteArray, W.cell? (a.add i) = some (.string s) ∧ s.size ≤ maxLen := by
      intro i hi
      obtain ⟨hc1, hc2⟩ := hel i (by omega)
      obtain ⟨s, hs1, _, hs⟩ := DataW.trod_string Try.underlying9 hc2
      simp at hs1
      rw [hs1] at hc1
      exact ⟨s, hc1, hs⟩
    obtain ⟨f, hfun⟩ := choose_lt hcell
    by_cases h0 : 0 < vl
    · obtain ⟨b, off, spot⟩ := a
      have h00 := (hfun 0 h0).1
      have hspot : spot = none := by simpa [Addr.add] using World.cell?_spot h00
      subst hspot
      have hb : b < W.heap.size := by
        have := World.block_lt_of_cell? W _ h00
        rw [add_plain] at this
        exact this
      refine ⟨some ⟨b, off, none⟩, vl, m, b, off, f, rfl, hlen, hl, fun _ => rfl, fun _ => hb, fun i hi => ?_⟩
      obtain ⟨g0, g1⟩ := hfun i hi
      rw [add_plain] at g0
      exact ⟨g0, g1⟩
    · exact ⟨some a, vl, m, 0, 0, fun _ => ByteArray.empty, rfl, hlen, hl, fun h => absurd h h0, fun h => absurd h h0, fun i hi => by omega⟩
end

set_option maxRecDepth 100000 in
theorem contract (H : Type) (enc : TypeId × Value → H) (W : World) (base : Nat) (args : Array Value) (ds gs : List (DataW H)) (before : List MemPlace)
    (hval : ∀ (j : Nat) t v, Try.f4.params[j]? = some t → args[j]? = some v → Value.okWide Try.prog W .any base t v)
    (hW : DataW.Whole enc Try.prog Try.f4.params.toList Rows.codesSpec.vars false W args.toList ds gs before) (hk : Rows.uptoSmall H (ds ++ gs) = true) :
    Calls Try.prog 4 args W fun e W' => ∃ v, e = .returned v ∧ Rows.codesSpec.post enc Try.prog Try.f4 false true false false W args v W' := by
  have hW' := hW
  obtain ⟨p, q, hA0, hV, rfl, hfz, hnd⟩ := hW
  have hA : DataW.TrodAll enc Try.prog W 0 (fun _ => true) true Try.f4.params.toList args.toList ds p := hA0
  rw [Try.params4] at hA hval
  obtain ⟨v0, vs0, d0, ds0, p0, q0, hargs, rfl, rfl, h0, r0⟩ := trodAll_cons hA
  obtain ⟨v1, vs1, d1, ds1, p1, q1, rfl, rfl, rfl, h1, r1⟩ := trodAll_cons r0
  obtain ⟨rfl, rfl, rfl⟩ := trodAll_nil r1
  obtain rfl : args = #[v0, v1] := by cases args; simp_all
  obtain ⟨rfl, rfl⟩ := trodVars_none hV
  have hs0 := okWide_slice Try.underlying33 (hval 0 33 v0 rfl rfl)
  have hs1 := okWide_slice Try.underlying34 (hval 1 34 v1 rfl rfl)
  have h0k := h0
  have h1k := h1
  obtain ⟨fuel, hf⟩ := h0
  obtain ⟨fuel1, hf1⟩ := h1
  clear hA0
  simp only [List.append_nil] at hW' hk
  have hlt : ∀ x ∈ p0 ++ p1, x.block < W.heap.size := fun x hx => by simpa using hW'.lt x hx
  have fin : ∀ (e : Ending) (W' : World), (e = .returned (.bool true) ∧ Below W.heap.size W W') → ∃ v, e = .returned v ∧ Rows.codesSpec.post enc Try.prog Try.f4 false true false false W #[v0, v1] v W' := by
    rintro e W' ⟨rfl, hb⟩
    refine ⟨_, rfl, _, _, _, [], p0 ++ (p1 ++ []), [], hW', ?_, ?_, rfl, hb.frame _, fun h => by cases h⟩
    · exact trodAll_cons_mk (shut_bool Try.underlying4 _) trodAll_mk0
    · exact trodAll_cons_mk (Below.trod laidOut (by kernel_rfl) (of_decide_eq_true (by kernel_rfl)) h0k hb (fun x hx => hlt x (List.mem_append_left _ hx))) (trodAll_cons_mk (Below.trod laidOut (by kernel_rfl) (of_decide_eq_true (by kernel_rfl)) h1k hb (fun x hx => hlt x (List.mem_append_right _ hx))) trodAll_mk0)
  refine Calls.mono ?_ fin
  have hkk : Rows.uptoBulkAll [d0, d1] ≤ 1048576 := of_decide_eq_true hk
  obtain ⟨ao, len, cap, b, off, M, V, rfl, m1, m2, m3, m4, m5⟩ := open_msgs hf hs0 (Nat.le_trans (mem_le (by simp)) hkk)
  obtain ⟨bo, len2, cap2, b2, off2, T, rfl, n1, n2, n3, n4, n5⟩ := open_texts hf1 hs1 (Nat.le_trans (mem_le (by simp)) hkk)
  exact codes_walk ao len cap b off bo len2 cap2 b2 off2 M V T W m1 m2 m3 m4 m5 n1 n2 n3 n4 n5

set_option maxRecDepth 100000 in
theorem lifted (os : Os) (started : os.Started) (H : Type) (enc : TypeId × Value → H) (F : Stop.Interp) :
    ReturnsInHanded {} Try.checked os 4 .any ((Rows.OpenSpec.upto Rows.codesSpec).pre6 enc Try.prog Try.f4 Rows.codesUptoRow.domain false) (((Rows.OpenSpec.upto Rows.codesSpec).at F).post enc Try.prog Try.f4 false true false false) := by
  refine returnsInHanded_of_cond (C := Try.checked) (s := Rows.OpenSpec.upto Rows.codesSpec) (k := Rows.uptoSmall) rfl own started (by kernel_rfl) Try.func4
    (OpenSpec.witness (enc := enc) (C := Try.checked) (s := Rows.OpenSpec.upto Rows.codesSpec) (k := Rows.uptoSmall) rfl false ⟨#[], #[.slice none 0 0, .slice none 0 0], []⟩ 8 (by kernel_rfl) (by kernel_rfl) (by kernel_rfl)
      (x := ([.nil, .nil], [], [])) (by kernel_rfl) rfl (by kernel_rfl)) ?_
  intro W base args ds gs before hval hW _ hk _
  exact contract H enc W base args ds gs before hval hW hk

theorem proved : Rows.CodesUptoSaid :=
  OpenClaim.holds_of_cond 4 Try.f4 rfl rfl rfl rfl rfl rfl rfl ⟨rfl, rfl, rfl, rfl, rfl⟩ rfl rfl rfl rfl rfl (by kernel_rfl) Try.func4 (by kernel_rfl)
    (of_decide_eq_true (by kernel_rfl)) (by unfold Func.isWrapper; first | (rw [if_pos (by decide +kernel)]; kernel_rfl) | (rw [if_neg (by decide +kernel)]; exact ⟨rfl, rfl⟩))
    (fun os started H enc _ F => lifted os started H enc F)
end Go.Proofs.Ytpecfjejfkcolaa.codesLaw
