/- The walk of ring.Reduce; the challenge as a plain function. -/
import Derived.Test.YtbohgkegchmnaaaChalWalk
namespace Go.Proofs.Ytbohgkegchmnaaa.rd
open Go.ChangeShapes Go.WideShapes Go.ChangeAt Go.RowKit Core cw nx sw ch
theorem idx0 (c0 c1 c2 c3 c4 c5 c6 c7 : Value) (w : World) : (Instr.index 39 (.agg #[c0, c1, c2, c3, c4, c5, c6, c7]) (.int .i64 0)).run Try.prog w = .ok c0 w := by kernel_rfl
theorem idx1 (c0 c1 c2 c3 c4 c5 c6 c7 : Value) (w : World) : (Instr.index 39 (.agg #[c0, c1, c2, c3, c4, c5, c6, c7]) (.int .i64 1)).run Try.prog w = .ok c1 w := by kernel_rfl
theorem idx2 (c0 c1 c2 c3 c4 c5 c6 c7 : Value) (w : World) : (Instr.index 39 (.agg #[c0, c1, c2, c3, c4, c5, c6, c7]) (.int .i64 2)).run Try.prog w = .ok c2 w := by kernel_rfl
theorem idx3 (c0 c1 c2 c3 c4 c5 c6 c7 : Value) (w : World) : (Instr.index 39 (.agg #[c0, c1, c2, c3, c4, c5, c6, c7]) (.int .i64 3)).run Try.prog w = .ok c3 w := by kernel_rfl
theorem idx4 (c0 c1 c2 c3 c4 c5 c6 c7 : Value) (w : World) : (Instr.index 39 (.agg #[c0, c1, c2, c3, c4, c5, c6, c7]) (.int .i64 4)).run Try.prog w = .ok c4 w := by kernel_rfl
theorem idx5 (c0 c1 c2 c3 c4 c5 c6 c7 : Value) (w : World) : (Instr.index 39 (.agg #[c0, c1, c2, c3, c4, c5, c6, c7]) (.int .i64 5)).run Try.prog w = .ok c5 w := by kernel_rfl
theorem idx6 (c0 c1 c2 c3 c4 c5 c6 c7 : Value) (w : World) : (Instr.index 39 (.agg #[c0, c1, c2, c3, c4, c5, c6, c7]) (.int .i64 6)).run Try.prog w = .ok c6 w := by kernel_rfl
theorem idx7 (c0 c1 c2 c3 c4 c5 c6 c7 : Value) (w : World) : (Instr.index 39 (.agg #[c0, c1, c2, c3, c4, c5, c6, c7]) (.int .i64 7)).run Try.prog w = .ok c7 w := by kernel_rfl
theorem red_eq (c : Int) : (wrap64 (c.tmod 769 + 769)).tmod 769 = c % 769 := by
  have h1 : -769 < c.tmod 769 ∧ c.tmod 769 < 769 := ⟨Int.neg_lt_of_neg_lt (by have := Int.tmod_lt_of_pos (-c) (b := 769) (by omega); rw [Int.neg_tmod] at this; omega), Int.tmod_lt_of_pos c (by omega)⟩
  have h2 : wrap64 (c.tmod 769 + 769) = c.tmod 769 + 769 := by unfold wrap64; omega
  rw [h2, Int.tmod_eq_emod_of_nonneg (by omega), Int.add_emod_right, Int.tmod_eq_emod]
  split <;> simp <;> omega
set_option maxHeartbeats 1000000 in
theorem reduce_any (c0 c1 c2 c3 c4 c5 c6 c7 : Int) (w : World) :
    Calls Try.prog 24 #[.agg #[.int .i64 c0, .int .i64 c1, .int .i64 c2, .int .i64 c3, .int .i64 c4, .int .i64 c5, .int .i64 c6, .int .i64 c7]] w fun e w' => e = .returned (.agg #[.int .i64 (c0 % 769), .int .i64 (c1 % 769), .int .i64 (c2 % 769), .int .i64 (c3 % 769), .int .i64 (c4 % 769), .int .i64 (c5 % 769), .int .i64 (c6 % 769), .int .i64 (c7 % 769)]) ∧ ∃ A B, w' = (w.alloc A).alloc B := by
  have i0 := fun w => idx0 (.int .i64 c0) (.int .i64 c1) (.int .i64 c2) (.int .i64 c3) (.int .i64 c4) (.int .i64 c5) (.int .i64 c6) (.int .i64 c7) w
  have i1 := fun w => idx1 (.int .i64 c0) (.int .i64 c1) (.int .i64 c2) (.int .i64 c3) (.int .i64 c4) (.int .i64 c5) (.int .i64 c6) (.int .i64 c7) w
  have i2 := fun w => idx2 (.int .i64 c0) (.int .i64 c1) (.int .i64 c2) (.int .i64 c3) (.int .i64 c4) (.int .i64 c5) (.int .i64 c6) (.int .i64 c7) w
  have i3 := fun w => idx3 (.int .i64 c0) (.int .i64 c1) (.int .i64 c2) (.int .i64 c3) (.int .i64 c4) (.int .i64 c5) (.int .i64 c6) (.int .i64 c7) w
  have i4 := fun w => idx4 (.int .i64 c0) (.int .i64 c1) (.int .i64 c2) (.int .i64 c3) (.int .i64 c4) (.int .i64 c5) (.int .i64 c6) (.int .i64 c7) w
  have i5 := fun w => idx5 (.int .i64 c0) (.int .i64 c1) (.int .i64 c2) (.int .i64 c3) (.int .i64 c4) (.int .i64 c5) (.int .i64 c6) (.int .i64 c7) w
  have i6 := fun w => idx6 (.int .i64 c0) (.int .i64 c1) (.int .i64 c2) (.int .i64 c3) (.int .i64 c4) (.int .i64 c5) (.int .i64 c6) (.int .i64 c7) w
  have i7 := fun w => idx7 (.int .i64 c0) (.int .i64 c1) (.int .i64 c2) (.int .i64 c3) (.int .i64 c4) (.int .i64 c5) (.int .i64 c6) (.int .i64 c7) w
  go_enter Try.func24, Try.ntmps24
  go_wp2_with fail
  refine wp_loop_rounds 9 ?_
  rw [rounds_succ]; go_wp2
  rw [rounds_succ]; go_wp2
  rw [rounds_succ]; go_wp2
  rw [rounds_succ]; go_wp2
  rw [rounds_succ]; go_wp2
  rw [rounds_succ]; go_wp2
  rw [rounds_succ]; go_wp2
  rw [rounds_succ]; go_wp2
  rw [rounds_succ]; go_wp2
  exact bodyPost_ret (v := .agg #[.int .i64 (c0 % 769), .int .i64 (c1 % 769), .int .i64 (c2 % 769), .int .i64 (c3 % 769), .int .i64 (c4 % 769), .int .i64 (c5 % 769), .int .i64 (c6 % 769), .int .i64 (c7 % 769)]) (by simp [results, Try.results24, go_sem, red_eq]) rfl ⟨rfl, _, _, rfl⟩

/-- Numbers as cells. -/
def is (xs : List Int) : Array Value := (xs.map (Value.int .i64)).toArray
theorem is_get (xs : List Int) (j : Nat) (h : j < xs.length) : (is xs)[j]? = some (.int .i64 (xs[j]?.getD 0)) := by
  simp [is, h]
theorem is_set (xs : List Int) (j : Nat) (y : Int) : (is xs).setIfInBounds j (.int .i64 y) = is (xs.set j y) := by
  apply Array.ext'
  simp [is, List.map_set]

/-- One step of a challenge of the state s: the coefficients and how many bytes have been given. -/
def chStep (s : Int) (lim : Nat) (p : List Int × Nat) : List Int × Nat :=
  ((p.1.set lim (p.1[(place s lim most p.2).1.toNat]?.getD 0)).set (place s lim most p.2).1.toNat (sgn s (place s lim most p.2).2), (place s lim most p.2).2 + 1)
/-- A challenge of the state s, with 1 and -1. -/
def chal (s : Int) : List Int := (chStep s 7 (chStep s 6 ([0, 0, 0, 0, 0, 0, 0, 0], 0))).1
theorem chStep_of (s : Int) (lim : Nat) (cs : List Int) (i : Nat) {j : Nat} {i1 : Nat} (h : place s lim most i = ((j : Int), i1)) : chStep s lim (cs, i) = ((cs.set lim (cs[j]?.getD 0)).set j (sgn s i1), i1 + 1) := by
  unfold chStep
  simp only [h, Int.toNat_natCast]
theorem place_nat (s : Int) (lim : Nat) (i : Nat) : ∃ j i1 : Nat, place s lim most i = ((j : Int), i1) ∧ j ≤ lim ∧ j ≤ 7 := by
  have h := place_bd s lim (by omega) most i
  generalize place s lim most i = P at *
  obtain ⟨j, i1⟩ := P
  simp only at h
  exact ⟨j.toNat, i1, by rw [Int.toNat_of_nonneg h.1], by omega, by omega⟩
end Go.Proofs.Ytbohgkegchmnaaa.rd
