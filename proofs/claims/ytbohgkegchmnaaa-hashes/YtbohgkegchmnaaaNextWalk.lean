/- The walk of Reader.Next. -/
import Derived.Test.YtbohgkegchmnaaaCoreWalks
import Derived.Deep.RegionHeld3
import Derived.Deep.DeepCutAuto
import Derived.Deep.DeepMust
import Derived.WalkSpells
namespace Go.Proofs.Ytbohgkegchmnaaa.nx
open Go.ChangeShapes Go.WideShapes Go.ChangeAt Go.RowKit Core cw

set_option maxHeartbeats 1000000 in
theorem next_mid (g : Nat) (u : Nat) (x : Int) (w : World) (hu : u < 8)
    (c0 : w.cell? ⟨g, 10, none⟩ = some (.int .i64 u)) (c1 : w.cell? ⟨g, 2 + u, none⟩ = some (.int .u8 x)) (f0 : w.frozen? ⟨g, 10, none⟩ = false) :
    Calls Try.prog 23 #[.pointer (some ⟨g, 0, none⟩)] w fun e w' => e = .returned (.int .u8 x) ∧ ∃ n, w' = (w.setCell ⟨g, 10, none⟩ (.int .i64 (u + 1))).drewN n := by
  have hne : ((u : Int) == 8) = false := by rw [beq_eq_false_iff_ne]; omega
  have hi : (u : Int) < 8 := by omega
  go_enter Try.func23, Try.ntmps23
  go_wp2
  go_quiet (fail)
  go_wp2
  go_ret
  exact ⟨rfl, nq, rfl⟩


theorem wrap8_bd (n : Int) : 0 ≤ IntKind.u8.wrap n ∧ IntKind.u8.wrap n ≤ 255 := bounds_u8 (wf_wrap .u8 n)

theorem add_two (s x y : Int) (b : Nat) (w : World) (hx : 0 ≤ x ∧ x ≤ 255) (hy : 0 ≤ y ∧ y ≤ 255)
    (c0 : w.cell? ⟨b, 0, none⟩ = some (.int .u8 x)) (c1 : w.cell? ⟨b, 1, none⟩ = some (.int .u8 y)) :
    Calls Try.prog 26 #[.int .u64 s, .slice (some ⟨b, 0, none⟩) 2 2] w fun e w' => e = .returned (.int .u64 (foldB s [x, y])) ∧ w' = w := by
  refine add_some s b 0 2 [x, y] w (by simp) ?_ ?_
  · intro z hz
    simp at hz
    rcases hz with rfl | rfl <;> assumption
  · intro j hj
    match j, hj with
    | 0, _ => exact c0
    | 1, _ => exact c1


theorem sum_ex (s : Int) (w : World) (hs : u64ok s) :
    Calls Try.prog 13 #[.int .u64 s] w fun e w' => ∃ d0 d1 d2 d3 d4 d5 d6 d7 : Int, ∃ A B : Obj, Hid (dg s = [d0, d1, d2, d3, d4, d5, d6, d7]) ∧
      e = .returned (.agg #[.int .u8 d0, .int .u8 d1, .int .u8 d2, .int .u8 d3, .int .u8 d4, .int .u8 d5, .int .u8 d6, .int .u8 d7]) ∧ w' = (w.alloc A).alloc B := by
  refine (sum_any s w hs).mono ?_
  rintro e w' ⟨rfl, rfl⟩
  exact ⟨_, _, _, _, _, _, _, _, _, _, rfl, rfl, rfl⟩

theorem row_drewN {w : World} {g : Nat} {o : Obj} {n : Nat} (h : w.heap[g]? = some o) : (w.drewN n).heap[g]? = some o := h
theorem row_alloc {w : World} {g : Nat} {o x : Obj} (h : w.heap[g]? = some o) : (w.alloc x).heap[g]? = some o := by
  have hlt : g < w.heap.size := by
    rcases Nat.lt_or_ge g w.heap.size with h' | h'
    · exact h'
    · rw [Array.getElem?_eq_none h'] at h; cases h
  rw [Below.heap_alloc _ _ _ hlt]; exact h
theorem world_new (s y : Int) (g n : Nat) (b0 b1 b2 b3 b4 b5 b6 b7 v2 : Value) (d0 d1 d2 d3 d4 d5 d6 d7 : Int) (A B C : Obj) (w : World) 
    (hg : w.heap[g]? = some (.cells #[.int .u64 s, v2, b0, b1, b2, b3, b4, b5, b6, b7, .int .i64 8] 65 (0, 0))) :
    But (fun x => x = g) w (((((((((((((((w.setCell ⟨g, 2, none⟩ (.int .u8 d0)).setCell ⟨g, 3, none⟩ (.int .u8 d1)).setCell ⟨g, 4, none⟩ (.int .u8 d2)).setCell ⟨g, 5, none⟩ (.int .u8 d3)).setCell ⟨g, 6, none⟩ (.int .u8 d4)).setCell ⟨g, 7, none⟩ (.int .u8 d5)).setCell ⟨g, 8, none⟩ (.int .u8 d6)).setCell ⟨g, 9, none⟩ (.int .u8 d7)).setCell ⟨g, 1, none⟩ (.int .u16 y)).setCell ⟨g, 10, none⟩ (.int .i64 0)).alloc C).alloc A).alloc B).drewN n).setCell ⟨g, 10, none⟩ (.int .i64 1)) ∧
    (((((((((((((((w.setCell ⟨g, 2, none⟩ (.int .u8 d0)).setCell ⟨g, 3, none⟩ (.int .u8 d1)).setCell ⟨g, 4, none⟩ (.int .u8 d2)).setCell ⟨g, 5, none⟩ (.int .u8 d3)).setCell ⟨g, 6, none⟩ (.int .u8 d4)).setCell ⟨g, 7, none⟩ (.int .u8 d5)).setCell ⟨g, 8, none⟩ (.int .u8 d6)).setCell ⟨g, 9, none⟩ (.int .u8 d7)).setCell ⟨g, 1, none⟩ (.int .u16 y)).setCell ⟨g, 10, none⟩ (.int .i64 0)).alloc C).alloc A).alloc B).drewN n).setCell ⟨g, 10, none⟩ (.int .i64 1)).heap[g]? =
      some (.cells #[.int .u64 s, .int .u16 y, .int .u8 d0, .int .u8 d1, .int .u8 d2, .int .u8 d3, .int .u8 d4, .int .u8 d5, .int .u8 d6, .int .u8 d7, .int .i64 1] 65 (0, 0)) := by
  have h1 := heap_setCell_same w g 2 _ _ (.int .u8 d0) hg
  have k1 := (But.refl (fun x => x = g) w).setCell (p := ⟨g, 2, none⟩) (Or.inl rfl) (.int .u8 d0)
  generalize w.setCell ⟨g, 2, none⟩ (.int .u8 d0) = w1 at *
  have h2 := heap_setCell_same w1 g 3 _ _ (.int .u8 d1) h1
  have k2 := k1.setCell (p := ⟨g, 3, none⟩) (Or.inl rfl) (.int .u8 d1)
  generalize w1.setCell ⟨g, 3, none⟩ (.int .u8 d1) = w2 at *
  have h3 := heap_setCell_same w2 g 4 _ _ (.int .u8 d2) h2
  have k3 := k2.setCell (p := ⟨g, 4, none⟩) (Or.inl rfl) (.int .u8 d2)
  generalize w2.setCell ⟨g, 4, none⟩ (.int .u8 d2) = w3 at *
  have h4 := heap_setCell_same w3 g 5 _ _ (.int .u8 d3) h3
  have k4 := k3.setCell (p := ⟨g, 5, none⟩) (Or.inl rfl) (.int .u8 d3)
  generalize w3.setCell ⟨g, 5, none⟩ (.int .u8 d3) = w4 at *
  have h5 := heap_setCell_same w4 g 6 _ _ (.int .u8 d4) h4
  have k5 := k4.setCell (p := ⟨g, 6, none⟩) (Or.inl rfl) (.int .u8 d4)
  generalize w4.setCell ⟨g, 6, none⟩ (.int .u8 d4) = w5 at *
  have h6 := heap_setCell_same w5 g 7 _ _ (.int .u8 d5) h5
  have k6 := k5.setCell (p := ⟨g, 7, none⟩) (Or.inl rfl) (.int .u8 d5)
  generalize w5.setCell ⟨g, 7, none⟩ (.int .u8 d5) = w6 at *
  have h7 := heap_setCell_same w6 g 8 _ _ (.int .u8 d6) h6
  have k7 := k6.setCell (p := ⟨g, 8, none⟩) (Or.inl rfl) (.int .u8 d6)
  generalize w6.setCell ⟨g, 8, none⟩ (.int .u8 d6) = w7 at *
  have h8 := heap_setCell_same w7 g 9 _ _ (.int .u8 d7) h7
  have k8 := k7.setCell (p := ⟨g, 9, none⟩) (Or.inl rfl) (.int .u8 d7)
  generalize w7.setCell ⟨g, 9, none⟩ (.int .u8 d7) = w8 at *
  have h9 := heap_setCell_same w8 g 1 _ _ (.int .u16 y) h8
  have k9 := k8.setCell (p := ⟨g, 1, none⟩) (Or.inl rfl) (.int .u16 y)
  generalize w8.setCell ⟨g, 1, none⟩ (.int .u16 y) = w9 at *
  have h10 := heap_setCell_same w9 g 10 _ _ (.int .i64 0) h9
  have k10 := k9.setCell (p := ⟨g, 10, none⟩) (Or.inl rfl) (.int .i64 0)
  generalize w9.setCell ⟨g, 10, none⟩ (.int .i64 0) = w10 at *
  have h11 := row_drewN (n := n) (row_alloc (x := B) (row_alloc (x := A) (row_alloc (x := C) h10)))
  have k11 := (((k10.alloc C).alloc A).alloc B).drewN n
  generalize (((w10.alloc C).alloc A).alloc B).drewN n = w11 at *
  have h12 := heap_setCell_same w11 g 10 _ _ (.int .i64 1) h11
  have k12 := k11.setCell (p := ⟨g, 10, none⟩) (Or.inl rfl) (.int .i64 1)
  refine ⟨k12, ?_⟩
  simpa using h12

set_option maxHeartbeats 2000000 in
theorem next_new (s nx : Int) (g : Nat) (b0 b1 b2 b3 b4 b5 b6 b7 : Value) (w : World) (hs : u64ok s) (hn0 : 0 ≤ nx) (hn1 : nx < 65536)
    (hg : w.heap[g]? = some (.cells #[.int .u64 s, .int .u16 nx, b0, b1, b2, b3, b4, b5, b6, b7, .int .i64 8] 65 (0, 0))) :
    Calls Try.prog 23 #[.pointer (some ⟨g, 0, none⟩)] w fun e w' => ∃ d0 d1 d2 d3 d4 d5 d6 d7 : Int, dg (foldB s [IntKind.u8.wrap (nx / 256), IntKind.u8.wrap nx]) = [d0, d1, d2, d3, d4, d5, d6, d7] ∧
      e = .returned (.int .u8 d0) ∧ But (· = g) w w' ∧ w'.heap[g]? = some (.cells #[.int .u64 s, .int .u16 (IntKind.u16.wrap (nx + 1)), .int .u8 d0, .int .u8 d1, .int .u8 d2, .int .u8 d3, .int .u8 d4, .int .u8 d5, .int .u8 d6, .int .u8 d7, .int .i64 1] 65 (0, 0)) := by
  have c0 : w.cell? ⟨g, 0, none⟩ = some (.int .u64 s) := cell_of_row w g 0 _ _ _ hg
  have c1 : w.cell? ⟨g, 1, none⟩ = some (.int .u16 nx) := cell_of_row w g 1 _ _ _ hg
  have c2 : w.cell? ⟨g, 2, none⟩ = some b0 := cell_of_row w g 2 _ _ _ hg
  have c3 : w.cell? ⟨g, 3, none⟩ = some b1 := cell_of_row w g 3 _ _ _ hg
  have c4 : w.cell? ⟨g, 4, none⟩ = some b2 := cell_of_row w g 4 _ _ _ hg
  have c5 : w.cell? ⟨g, 5, none⟩ = some b3 := cell_of_row w g 5 _ _ _ hg
  have c6 : w.cell? ⟨g, 6, none⟩ = some b4 := cell_of_row w g 6 _ _ _ hg
  have c7 : w.cell? ⟨g, 7, none⟩ = some b5 := cell_of_row w g 7 _ _ _ hg
  have c8 : w.cell? ⟨g, 8, none⟩ = some b6 := cell_of_row w g 8 _ _ _ hg
  have c9 : w.cell? ⟨g, 9, none⟩ = some b7 := cell_of_row w g 9 _ _ _ hg
  have c10 : w.cell? ⟨g, 10, none⟩ = some (.int .i64 8) := cell_of_row w g 10 _ _ _ hg
  have fr : ∀ j, w.frozen? ⟨g, j, none⟩ = false := fun j => frozen_of_row w g j _ _ hg
  have hgl : g < w.heap.size := block_lt_of_cell c0
  have hgl1 : g < w.heap.size + 1 := by omega
  have hgl2 : g < w.heap.size + 1 + 1 := by omega
  have hgl3 : g < w.heap.size + 2 := by omega
  have Hg : Hid _ := hg
  clear hg
  go_enter Try.func23, Try.ntmps23
  go_wp2
  go_region_held3 (fun w' => w'.cell? ⟨g, 0, none⟩ = some (.int .u64 s) ∧ w'.cell? ⟨g, 1, none⟩ = some (.int .u16 nx)) (simp (maxDischargeDepth := 20) [*, World.cell?_alloc_past, World.cell?_setCell_other]) (first | (go_at_call 26; go_must (refine (add_two _ (IntKind.u8.wrap (nx / 256)) (IntKind.u8.wrap nx) _ _ (wrap8_bd _) (wrap8_bd _) (by simp) (by simp)).mono ?_); rintro e w' ⟨rfl, rfl⟩) | (go_at_call 13; refine (sum_ex _ _ (fold_ok _ _ hs)).mono ?_; rintro e w' ⟨d0, d1, d2, d3, d4, d5, d6, d7, A, B, Hd, rfl, rfl⟩))
  go_wp2
  go_quiet (fail)
  go_wp2
  go_ret
  obtain ⟨hbut, hrow⟩ := world_new s (IntKind.u16.wrap (nx + 1)) g (1 + nq) b0 b1 b2 b3 b4 b5 b6 b7 (.int .u16 nx) d0 d1 d2 d3 d4 d5 d6 d7 A B (Obj.cells #[Value.int IntKind.u8 (nx / 256), Value.int IntKind.u8 (nx % 256)] 5) w Hg.out
  exact ⟨d0, d1, d2, d3, d4, d5, d6, d7, Hd.out, rfl, hbut, hrow⟩

/-- The reader in block g, of the state s, has given i bytes. -/
def RdAt (w : World) (g : Nat) (s : Int) (i : Nat) : Prop :=
  ∃ nx u b0 b1 b2 b3 b4 b5 b6 b7 : Int, w.heap[g]? = some (.cells #[.int .u64 s, .int .u16 nx, .int .u8 b0, .int .u8 b1, .int .u8 b2, .int .u8 b3, .int .u8 b4, .int .u8 b5, .int .u8 b6, .int .u8 b7, .int .i64 u] 65 (0, 0)) ∧
    ((i % 8 = 0 ∧ u = 8 ∧ nx = ((i / 8 % 65536 : Nat) : Int)) ∨ (i % 8 ≠ 0 ∧ u = ((i % 8 : Nat) : Int) ∧ nx = (((i / 8 + 1) % 65536 : Nat) : Int) ∧ blk s (i / 8 % 65536) = [b0, b1, b2, b3, b4, b5, b6, b7]))

theorem RdAt.kept {S : Nat → Prop} {w w' : World} {g : Nat} {s : Int} {i : Nat} (h : RdAt w g s i) (hb : But S w w') (hs : ¬ S g) : RdAt w' g s i := by
  obtain ⟨nx, u, b0, b1, b2, b3, b4, b5, b6, b7, hg, h⟩ := h
  have hlt : g < w.heap.size := by
    rcases Nat.lt_or_ge g w.heap.size with h | h
    · exact h
    · rw [Array.getElem?_eq_none h] at hg; cases hg
  exact ⟨nx, u, b0, b1, b2, b3, b4, b5, b6, b7, (hb.block g hlt hs).trans hg, h⟩
theorem RdAt.lt {w : World} {g : Nat} {s : Int} {i : Nat} (h : RdAt w g s i) : g < w.heap.size := by
  obtain ⟨nx, u, b0, b1, b2, b3, b4, b5, b6, b7, hg, h⟩ := h
  rcases Nat.lt_or_ge g w.heap.size with h | h
  · exact h
  · rw [Array.getElem?_eq_none h] at hg; cases hg

theorem wrap8_eq (n : Int) : IntKind.u8.wrap n = n % 256 := rfl
theorem wrap16_eq (n : Int) : IntKind.u16.wrap n = n % 65536 := rfl

theorem next_any (s : Int) (g i : Nat) (w : World) (hs : u64ok s) (h : RdAt w g s i) :
    Calls Try.prog 23 #[.pointer (some ⟨g, 0, none⟩)] w fun e w' => e = .returned (.int .u8 (sb s i)) ∧ RdAt w' g s (i + 1) ∧ But (· = g) w w' := by
  obtain ⟨nx, u, b0, b1, b2, b3, b4, b5, b6, b7, hg, ⟨h8, rfl, rfl⟩ | ⟨h8, rfl, rfl, hb⟩⟩ := h
  · refine (next_new s _ g _ _ _ _ _ _ _ _ w hs (by omega) (by omega) hg).mono ?_
    rintro e w' ⟨d0, d1, d2, d3, d4, d5, d6, d7, hd, rfl, hbut, hg'⟩
    have hblk : blk s (i / 8 % 65536) = [d0, d1, d2, d3, d4, d5, d6, d7] := by
      rw [← hd, wrap8_eq, wrap8_eq]; rfl
    refine ⟨?_, ⟨_, _, d0, d1, d2, d3, d4, d5, d6, d7, hg', .inr ⟨by omega, ?_, ?_, ?_⟩⟩, hbut⟩
    · unfold sb; rw [hblk, h8]; rfl
    · rw [show (i + 1) % 8 = 1 by omega]; rfl
    · rw [wrap16_eq, show (i + 1) / 8 = i / 8 by omega]; omega
    · rw [show (i + 1) / 8 = i / 8 by omega]; exact hblk
  · have hu : i % 8 < 8 := by omega
    have hx : w.cell? ⟨g, 2 + i % 8, none⟩ = some (.int .u8 (sb s i)) := by
      rw [cell_of_row w g _ _ _ _ hg]
      unfold sb
      rw [hb]
      generalize i % 8 = k at *
      match k, hu with
      | 0, _ => exact absurd rfl h8
      | 1, _ => rfl
      | 2, _ => rfl
      | 3, _ => rfl
      | 4, _ => rfl
      | 5, _ => rfl
      | 6, _ => rfl
      | 7, _ => rfl
    refine (next_mid g (i % 8) (sb s i) w hu (cell_of_row w g 10 _ _ _ hg) hx (frozen_of_row w g 10 _ _ hg)).mono ?_
    rintro e w' ⟨rfl, n, rfl⟩
    refine ⟨rfl, ⟨_, _, b0, b1, b2, b3, b4, b5, b6, b7, row_drewN (heap_setCell_same _ _ _ _ _ _ hg), ?_⟩, But.drewN (But.setCell (S := fun x => x = g) (p := ⟨g, 10, none⟩) (But.refl _ _) (.inl rfl) _) _⟩
    by_cases h9 : (i + 1) % 8 = 0
    · exact .inl ⟨h9, by omega, by omega⟩
    · refine .inr ⟨h9, by omega, by omega, ?_⟩
      rw [show (i + 1) / 8 = i / 8 by omega]; exact hb
end Go.Proofs.Ytbohgkegchmnaaa.nx
