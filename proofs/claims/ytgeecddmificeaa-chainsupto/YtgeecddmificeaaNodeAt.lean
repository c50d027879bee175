/- chains.nodeAt, moot.Members' own loop. -/
import Derived.Test.YtgeecddmificeaaIter
namespace Go.Proofs.Ytgeecddmificeaa
open Go.RowKit Go.Shelf
attribute [local go_sem] Oper.semAt_some
set_option linter.unusedVariables false

theorem boxed_keep_set {W : World} {B b : Nat} {t : TypeId} {v : Value} (h : Boxed W B t v) (hne : B ≠ b) (u : Value) : Boxed (W.setCell ⟨b, 0, none⟩ u) B t v :=
  (Below.heap_setCell W ⟨b, 0, none⟩ u B hne).trans h
theorem keepB_set {W : World} {B b : Nat} (hne : B ≠ b) (u : Value) : KeepB B W (W.setCell ⟨b, 0, none⟩ u) := Below.heap_setCell W ⟨b, 0, none⟩ u B hne
theorem boxed_own' {β : Type} (B : Nat) (t : TypeId) (f : β → Value) : Own (fun (s : β) W => Boxed W B t (f s)) := by
  rintro s X Y row hv hg hrow
  refine hv.kept hg (fun e' => ?_)
  obtain ⟨o, ho, hc⟩ := hrow B e'.symm
  rw [show X.heap[B]? = _ from hv] at ho; cases ho; cases hc
theorem boxed_put {W : World} {B l : Nat} {t : TypeId} {v : Value} {o : Obj} (h : Boxed W B t v) (o' : Obj) (hl : W.heap[l]? = some o) (ho : o.isCells = false) : Boxed (W.putObj l o') B t v :=
  Own.putObj (boxed_own' B t (fun _ : Unit => v)) o' (s := ()) h hl ho

set_option maxRecDepth 100000 in
set_option maxHeartbeats 2000000 in
theorem nodeAt_any (s p : Nat) (hs : s < 128) (hp : p < sizeS s) (w : World) :
    Calls Try.prog 45 #[.int .i64 (s : Int), .int .i64 (p : Int)] w fun e w' => e = .returned (.int .i64 (((listed s).getD p 0 : Nat) : Int)) ∧ Below w.heap.size w w' := by
  have hp7 : sizeS s ≤ 7 := sizeS_le
  refine (callsIn_wide (n := 6)).1 ?_
  refine callsIn_of_wp_marks Try.func45 rfl trivial ?_ rfl
  simp only [Try.ntmps45, List.size_toArray, List.length_cons, List.length_nil, Nat.reduceAdd, Nat.reduceSub, Array.replicate_succ, Array.replicate_zero, List.push_toArray, List.append_toArray, List.nil_append, List.cons_append]
  gi_wp2_with (refine ⟨trivial, ?_⟩; gi_at_call 24; refine (callsIn_wide.2 (nodes_any _ _)).mono ?_; rintro e w' ⟨rfl, rfl⟩)
  have b0 := Boxed.new w 3 (.int .i64 (p : Int))
  have b1 := Boxed.new (w.alloc (.cells #[.int .i64 (p : Int)] 3)) 3 (.int .i64 0)
  have b2 := Boxed.new ((w.alloc (.cells #[.int .i64 (p : Int)] 3)).alloc (.cells #[.int .i64 0] 3)) 66 (.int .i64 (s : Int))
  simp only [World.size_alloc] at b1 b2
  have hB0 : Below w.heap.size w (((w.alloc (.cells #[.int .i64 (p : Int)] 3)).alloc (.cells #[.int .i64 0] 3)).alloc (.cells #[.int .i64 (s : Int)] 66)) := (((Below.refl _ w).alloc (Nat.le_refl _) _).alloc (by simp) _).alloc (by simp; omega) _
  refine wpIn_rangeFunc_ownG rfl (by omega) (gf := 44) (lb := #[.pointer (some ⟨w.heap.size + 1 + 1, 0, none⟩)]) rfl trivial (enters_of Try.func44 (by kernel_rfl) rfl)
    (nodes_stops 5 (by omega) (w.heap.size + 1 + 1) s hs _ b2) keepB_t (keepB_b (by simp)) (Below.refl _ _) (fun _ => rfl)
    (fun pre W => ((pre.length ≤ p ∧ Boxed W w.heap.size 3 (.int .i64 ((p : Int) - (pre.length : Int)))) ∧ Boxed W (w.heap.size + 1) 3 (.int .i64 0)) ∧ Below w.heap.size w W)
    (fun c pre W => (c = .ret ∧ ∃ x : Fin 7, pre[p]? = some x ∧ Boxed W (w.heap.size + 1) 3 (.int .i64 (x.1 : Int))) ∧ Below w.heap.size w W)
    (OwnFrom.and (Own.from (fun s A B row hs hg hr => ⟨⟨hs.1.1, boxed_own' _ _ (fun pre : List (Fin 7) => Value.int .i64 ((p : Int) - (pre.length : Int))) s A B row hs.1.2 hg hr⟩, boxed_own' _ _ (fun _ : List (Fin 7) => Value.int .i64 0) s A B row hs.2 hg hr⟩) _) (ownFrom_below (Nat.le_refl _) (by simp; omega)))
    (fun c => OwnFrom.and (Own.from (fun s A B row hs hg hr => by
      obtain ⟨h1, x, h2, h3⟩ := hs
      exact ⟨h1, x, h2, boxed_own' _ _ (fun _ : Unit => Value.int .i64 (x.1 : Int)) () A B row h3 hg hr⟩) _) (ownFrom_below (Nat.le_refl _) (by simp; omega)))
    ⟨⟨⟨by simp, by simpa using (b0.alloc _).alloc _⟩, b1.alloc _⟩, hB0⟩
    (fun x => { tmps := #[.int .i64 (s : Int), .int .i64 (p : Int), undef, .pointer (some ⟨w.heap.size, 0, none⟩), .pointer (some ⟨w.heap.size + 1, 0, none⟩), .int .i64 (x.1 : Int), .int .i64 (s : Int), .func (.func 44) #[] #[.pointer (some ⟨w.heap.size + 1 + 1, 0, none⟩)], .int .i64 (x.1 : Int), undef, undef, undef, undef, undef], defers := [] }) ?assign ?body ?done ?stop
  case assign =>
    intro l x W K hK
    gi_wp2
    exact hK
  case body =>
    rintro l pre x W ⟨⟨⟨hle, hb0⟩, hb1⟩, hB⟩ hlt
    have hc0 := hb0.cell
    have hf0 := hb0.frozen
    have hc1 := hb1.cell
    have hf1 := hb1.frozen
    by_cases hz : pre.length = p
    · have hzB : ((p : Int) - (pre.length : Int) == 0) = true := by simp; omega
      have HZ := hide hz
      clear hz
      gi_wp2
      refine ⟨(KeepsOthers.setCell _ _ _).from _, ⟨rfl, x, ?_, hb1.set _⟩, hB.setCell (p := ⟨w.heap.size + 1, 0, none⟩) (by simp) _⟩
      rw [← HZ.out]; simp
    · have hzB : ((p : Int) - (pre.length : Int) == 0) = false := by simp; omega
      gi_wp2
      refine ⟨(KeepsOthers.setCell _ _ _).from _, keepB_set (by omega) _, ⟨⟨by simp; omega, ?_⟩, boxed_keep_set hb1 (by omega) _⟩, hB.setCell (p := ⟨w.heap.size, 0, none⟩) (by simp) _⟩
      have e : (p : Int) - ((pre ++ [x]).length : Int) = (p : Int) - (pre.length : Int) - 1 := by simp; omega
      rw [e]
      exact hb0.set _
  case done =>
    rintro D ys W hD hys ⟨⟨⟨hle, _⟩, _⟩, _⟩ hK
    have h := congrArg List.length hys
    rw [List.length_map] at h
    have h2 : sizeS s = (listed s).length := rfl
    omega
  case stop =>
    rintro D c pre W hD hpre ⟨⟨rfl, x, hx, hb1⟩, hB⟩ hK
    gi_wp2
    refine ⟨by simp, .inl ⟨_, _, rfl, run_takeDeferred hK, ?_⟩⟩
    have hc5 := (boxed_put hb1 (.deferred none) hK rfl).cell
    have hx2 : (listed s)[p]? = some x.1 := by
      obtain ⟨r, hr⟩ := hpre
      rw [← hr, List.getElem?_append_left, List.getElem?_map, hx]
      · rfl
      · rw [List.length_map]; exact (List.getElem?_eq_some_iff.1 hx).1
    refine ⟨.int .i64 (x.1 : Int), ?_, ret_int (by rw [List.getD_eq_getElem?_getD, hx2]; rfl), hB.trans (belowK_b (w := w) (Nat.le_refl _) W D _ _ (by simp at hD; omega) hK rfl rfl)⟩
    simp [results, Try.f45, go_sem, hc5]
end Go.Proofs.Ytgeecddmificeaa
