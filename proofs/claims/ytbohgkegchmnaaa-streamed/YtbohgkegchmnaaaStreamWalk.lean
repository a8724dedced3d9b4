/- The walks of signet.Digest and signet.Stream. -/
import Derived.Test.YtbohgkegchmnaaaNextWalk
import Derived.Deep.OwnRows
namespace Go.Proofs.Ytbohgkegchmnaaa.sw
open Go.ChangeShapes Go.WideShapes Go.ChangeAt Go.RowKit Core cw nx

theorem heap_new3 (w : World) (A B C : Obj) : (((w.alloc A).alloc B).alloc C).heap[w.heap.size + 1 + 1]? = some C := by
  have h := heap_alloc_new ((w.alloc A).alloc B) C
  rwa [show ((w.alloc A).alloc B).heap.size = w.heap.size + 1 + 1 by simp] at h

set_option maxHeartbeats 400000 in
theorem digest_any (v : Value) (xs : List Int) (w : World) (hm : xs.length ≤ 140737488355328) (h : BytesAt w v xs) :
    Calls Try.prog 6 #[v] w fun e w' => ∃ g, w.heap.size ≤ g ∧ e = .returned (.slice (some ⟨g, 0, none⟩) 8 8) ∧ w'.heap[g]? = some (.cells (vs (dg (foldB fnv0 xs))) 43 (0, 0)) ∧ Below w.heap.size w w' := by
  have hok := fold_ok xs _ fnv0_ok
  go_enter Try.func6, Try.ntmps6
  go_wp2_with fail
  refine (of_any v xs _ hm h).mono ?_
  rintro e w' ⟨rfl, rfl⟩
  go_wp2_with fail
  refine (sum_ex _ _ hok).mono ?_
  rintro e w2 ⟨d0, d1, d2, d3, d4, d5, d6, d7, A, B, Hd, rfl, rfl⟩
  go_wp2_with fail
  go_ret
  refine ⟨_, ?_, rfl, ?_, ?_⟩
  · omega
  · rw [Hd.out]
    exact heap_new3 _ _ _ _
  · exact ((((Below.refl _ _).alloc (Nat.le_refl _) _).alloc (by simp) _).alloc (by simp; omega) _)

theorem mk8 (n : Nat) (h : n ≤ 281474976710656) (w : World) : (Instr.makeSlice 22 (.int .i64 (n : Int)) (.int .i64 (n : Int))).run Try.prog w = .ok (.slice (some ⟨w.heap.size, 0, none⟩) n n) (w.alloc (.cells (vs (List.replicate n 0)) 5)) := by
  rw [← made_vs]
  exact run_make_row' 22 5 (.int .u8 0) 1 Try.underlying22 (by kernel_rfl) rfl .i64 .i64 n (by omega) (by omega) w

set_option maxHeartbeats 400000 in
theorem stream_bad (v : Value) (n : Int) (w : World) (h : n < 0 ∨ 1000 < n) :
    Calls Try.prog 10 #[v, .int .i64 n] w fun e w' => e = .returned (.tuple #[.slice none 0 0, .int .i64 3]) ∧ w' = w := by
  by_cases h0 : n < 0
  · go_enter Try.func10, Try.ntmps10
    go_wp2_with fail
    go_ret2
    exact ⟨rfl, rfl⟩
  · have h1 : 1000 < n := by omega
    go_enter Try.func10, Try.ntmps10
    go_wp2_with fail
    go_ret2
    exact ⟨rfl, rfl⟩

theorem strm_step (s : Int) (n k : Nat) (h : k < n) : (vs (strm s k ++ List.replicate (n - k) 0)).setIfInBounds k (.int .u8 (sb s k)) = vs (strm s (k + 1) ++ List.replicate (n - (k + 1)) 0) := by
  have e : n - k = (n - (k + 1)) + 1 := by omega
  have h1 := vs_set (strm s k) (List.replicate (n - (k + 1)) 0) 0 (sb s k)
  rw [strm_length] at h1
  rw [e, List.replicate_succ, h1]
  congr 1
  rw [show strm s (k + 1) = strm s k ++ [sb s k] by simp [strm, List.range_succ]]
  simp

theorem strm_full (s : Int) (n : Nat) : strm s n ++ List.replicate (n - n) 0 = strm s n := by simp

set_option maxHeartbeats 1000000 in
theorem stream_any (v : Value) (xs : List Int) (n : Nat) (w : World) (hn : n ≤ 1000) (hm : xs.length ≤ 140737488355328) (h : BytesAt w v xs) :
    Calls Try.prog 10 #[v, .int .i64 n] w fun e w' => ∃ g, w.heap.size ≤ g ∧ e = .returned (.tuple #[.slice (some ⟨g, 0, none⟩) n n, .int .i64 0]) ∧ w'.heap[g]? = some (.cells (vs (strm (foldB fnv0 xs) n)) 5 (0, 0)) ∧ Below w.heap.size w w' := by
  have hok := fold_ok xs _ fnv0_ok
  have hmk := mk8 n (by omega)
  go_enter Try.func10, Try.ntmps10
  go_wp2_with fail
  refine (of_any v xs _ hm h).mono ?_
  rintro e w' ⟨rfl, rfl⟩
  generalize hss : foldB fnv0 xs = s at *
  have Hs : Hid (foldB fnv0 xs = s) := hss
  clear hss
  go_wp2_with fail
  refine (dstream_any s _).mono ?_
  rintro e w2 ⟨rfl, rfl⟩
  have hrd : RdAt (w'.alloc (.cells #[.int .u64 s, .int .u16 0, .int .u8 0, .int .u8 0, .int .u8 0, .int .u8 0, .int .u8 0, .int .u8 0, .int .u8 0, .int .u8 0, .int .i64 8] 65)) w'.heap.size s 0 := ⟨0, 8, 0, 0, 0, 0, 0, 0, 0, 0, heap_alloc_new _ _, .inl ⟨rfl, rfl, rfl⟩⟩
  have hbw : Below w'.heap.size w' (w'.alloc (.cells #[.int .u64 s, .int .u16 0, .int .u8 0, .int .u8 0, .int .u8 0, .int .u8 0, .int .u8 0, .int .u8 0, .int .u8 0, .int .u8 0, .int .i64 8] 65)) := (Below.refl _ _).alloc (Nat.le_refl _) _
  have hsz : (w'.alloc (.cells #[.int .u64 s, .int .u16 0, .int .u8 0, .int .u8 0, .int .u8 0, .int .u8 0, .int .u8 0, .int .u8 0, .int .u8 0, .int .u8 0, .int .i64 8] 65)).heap.size = w'.heap.size + 1 := by simp
  generalize w'.alloc (.cells #[.int .u64 s, .int .u16 0, .int .u8 0, .int .u8 0, .int .u8 0, .int .u8 0, .int .u8 0, .int .u8 0, .int .u8 0, .int .u8 0, .int .i64 8] 65) = w3 at *
  go_wp2_with fail
  generalize hg0 : w'.heap.size = g0 at *
  have Hg0 : Hid (w'.heap.size = g0) := hg0
  clear hg0 hmk
  have hrd1 : RdAt (w3.alloc (.cells (vs (List.replicate n 0)) 5)) g0 s 0 := hrd.kept ((But.refl (fun _ => False) w3).alloc _) id
  have hbw1 : Below g0 w' (w3.alloc (.cells (vs (List.replicate n 0)) 5)) := hbw.alloc (by omega) _
  have hrow1 : (w3.alloc (.cells (vs (List.replicate n 0)) 5)).heap[g0 + 1]? = some (.cells (vs (List.replicate n 0)) 5 (0, 0)) := by rw [← hsz]; exact heap_alloc_new _ _
  generalize w3.alloc (.cells (vs (List.replicate n 0)) 5) = w4 at *
  clear hrd hbw hsz
  go_loopw [22] (fun i wr => ∃ k : Nat, k ≤ n ∧ i = .int .i64 k ∧ RdAt wr g0 s k ∧ wr.heap[g0 + 1]? = some (.cells (vs (strm s k ++ List.replicate (n - k) 0)) 5 (0, 0)) ∧ Below g0 w' wr) (fun i _ => n - (intOf i).toNat)
  case atStart => exact ⟨0, Nat.zero_le _, rfl, hrd1, hrow1, hbw1⟩
  case round =>
    clear hrd1 hrow1 hbw1
    obtain ⟨k, hk, rfl, hrd, hrow, hbw⟩ := hrel
    by_cases hlt : k < n
    · have Hrow : Hid _ := hrow
      clear hrow
      go_wp2_with fail
      refine (next_any s g0 k _ hok hrd).mono ?_
      rintro e w1 ⟨rfl, hrd', hbut⟩
      have hrow' := (hbut.block (g0 + 1) (lt_of_row Hrow.out) (by omega)).trans Hrow.out
      obtain ⟨v0, hcell⟩ : ∃ v0, w1.cell? ⟨g0 + 1, k, none⟩ = some v0 := ⟨_, (cell_of_row w1 (g0 + 1) k _ _ _ hrow').trans (vs_get _ k (by simp [strm_length]; omega))⟩
      have hfr := frozen_of_row w1 (g0 + 1) k _ _ hrow'
      have hnew := heap_setCell_same w1 (g0 + 1) k _ _ (.int .u8 (sb s k)) hrow'
      rw [strm_step s n k hlt] at hnew
      have hbw' : Below g0 w' (w1.setCell ⟨g0 + 1, k, none⟩ (.int .u8 (sb s k))) := (hbw.trans (hbut.below (by have := hrd.lt; omega) (by intro j hj; omega))).setCell (by simp) _
      have hrd2 : RdAt (w1.setCell ⟨g0 + 1, k, none⟩ (.int .u8 (sb s k))) g0 s (k + 1) := hrd'.kept (But.setCell (S := fun x => x = g0 + 1) (But.refl _ _) (.inl rfl) _) (by omega)
      have Hn : Hid _ := hnew
      clear hnew hrow' hrd hrd' hbw
      go_wp2_with fail
      go_roundw
      case rel => exact ⟨k + 1, by omega, by go_num, hrd2, Hn.out, hbw'⟩
      case measure => simp [intOf]; omega
    · obtain rfl : k = n := by omega
      have Hrow : Hid _ := hrow
      clear hrow
      go_wp2_with fail
      go_ret2
      have h1 := Hrow.out
      rw [strm_full] at h1
      exact ⟨g0 + 1, by rw [Hg0.out]; omega, rfl, by rw [Hs.out]; exact h1, by rw [Hg0.out]; exact hbw⟩
end Go.Proofs.Ytbohgkegchmnaaa.sw
