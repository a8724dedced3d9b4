/- The walks of the document's answer: stream, Stream. -/
import Derived.Test.YtbohgkegchmnaaaRefWalk
namespace Go.Proofs.Ytbohgkegchmnaaa.rs
open Go.ChangeShapes Go.WideShapes Go.ChangeAt Go.RowKit Core cw bl rf

theorem blk_mod (s : Int) (k : Nat) : blk s (k % 65536) = blk s k := by
  unfold blk
  have e1 : (((k % 65536 : Nat) : Int) / 256) % 256 = ((k : Int) / 256) % 256 := by omega
  have e2 : ((k % 65536 : Nat) : Int) % 256 = (k : Int) % 256 := by omega
  rw [e1, e2]
theorem strm_block (s : Int) (k : Nat) : strm s (8 * (k + 1)) = strm s (8 * k) ++ blk s k := by
  apply List.ext_getElem?
  intro j
  by_cases h1 : j < 8 * k
  · rw [List.getElem?_append_left (by rw [strm_length]; exact h1)]
    simp [strm, h1, show j < 8 * (k + 1) by omega]
  · by_cases h2 : j < 8 * (k + 1)
    · rw [List.getElem?_append_right (by rw [strm_length]; omega), strm_length]
      have e : sb s j = (blk s k)[j - 8 * k]?.getD 0 := by
        unfold sb
        rw [show j / 8 = k by omega, show j % 8 = j - 8 * k by omega, blk_mod]
      have hb : j - 8 * k < (blk s k).length := by rw [blk_length]; omega
      rw [List.getElem?_eq_getElem hb] at e ⊢
      simp only [Option.getD_some] at e
      simp [strm, h2, e]
    · rw [List.getElem?_eq_none (by rw [strm_length]; omega), List.getElem?_eq_none (by rw [List.length_append, strm_length, blk_length]; omega)]
theorem strm_take (s : Int) (m n : Nat) (h : n ≤ m) : (strm s m).take n = strm s n := by
  unfold strm
  rw [← List.map_take, List.take_range, Nat.min_eq_left h]
theorem pair_lists {w : World} {v : Value} {xs : List Int} (x y : Int) (hx : 0 ≤ x ∧ x ≤ 255) (hy : 0 ≤ y ∧ y ≤ 255) (h : BytesAt w v xs) :
    Lists ((w.alloc (.cells #[.int .u8 x, .int .u8 y] 5)).alloc (.cells #[v, .slice (some ⟨w.heap.size, 0, none⟩) 2 2] 22)) (w.heap.size + 1) [v, .slice (some ⟨w.heap.size, 0, none⟩) 2 2] [xs, [x, y]] := by
  refine ⟨rfl, fun j hj => ?_, fun j hj => ?_, by simp⟩
  · match j, hj with
    | 0, _ => simp
    | 1, _ => simp
  · match j, hj with
    | 0, _ => exact (h.alloc _).alloc _
    | 1, _ => exact (two_bytes w x y hx hy).alloc _

set_option maxHeartbeats 1000000 in
theorem rstream_any (v : Value) (xs : List Int) (n : Nat) (w : World) (hn : n ≤ 1000000000) (hm : xs.length ≤ 140737488351232) (h : BytesAt w v xs) :
    Calls Try.prog 27 #[v, .int .i64 n] w fun e w' => ∃ a cap, e = .returned (.slice a n cap) ∧ BytesAt w' (.slice a n cap) (strm (foldB fnv0 xs) n) ∧ Below w.heap.size w w' := by
  have Hm : Hid (xs.length ≤ 140737488351232) := hm
  clear hm
  go_enter Try.func27, Try.ntmps27
  go_wp2_with fail
  go_loopw [5, 6] (fun ov iv wr => ∃ (k c : Nat) (o : Value) (a : Option Addr), 8 * k ≤ n + 7 ∧ iv = .int .i64 k ∧ o = ov ∧ o = .slice a (8 * k) c ∧ OwnB wr w.heap.size o (strm (foldB fnv0 xs) (8 * k)) ∧ Below w.heap.size w wr) (fun _ iv _ => n + 8 - 8 * (intOf iv).toNat)
  case atStart => exact ⟨0, 0, _, none, by omega, rfl, rfl, rfl, OwnB.nil _ _, Below.refl _ _⟩
  case round =>
    obtain ⟨k, c, o, a, hk, rfl, rfl, rfl, hown, hbw⟩ := hrel
    by_cases hlt : 8 * k < n
    · have hlt2 : 8 * (k : Int) < (n : Int) := by omega
      have hB := h.below hbw
      have hx1 : 0 ≤ (k : Int) / 256 % 256 ∧ (k : Int) / 256 % 256 ≤ 255 := by omega
      have hx2 : 0 ≤ (k : Int) % 256 ∧ (k : Int) % 256 ≤ 255 := by omega
      have hL := pair_lists _ _ hx1 hx2 hB
      obtain ⟨va, vc, rfl⟩ := hB.shape
      have hown2 := (hown.alloc (.cells #[.int .u8 ((k : Int) / 256 % 256), .int .u8 ((k : Int) % 256)] 5)).alloc (.cells #[.slice va xs.length vc, .slice (some ⟨wr.heap.size, 0, none⟩) 2 2] 22)
      have hbw2 := (hbw.alloc hbw.size (.cells #[.int .u8 ((k : Int) / 256 % 256), .int .u8 ((k : Int) % 256)] 5)).alloc (by have := hbw.size; simp; omega) (.cells #[.slice va xs.length vc, .slice (some ⟨wr.heap.size, 0, none⟩) 2 2] 22)
      go_wp2_with fail
      generalize hw1 : (wr.alloc (.cells #[.int .u8 ((k : Int) / 256 % 256), .int .u8 ((k : Int) % 256)] 5)).alloc (.cells #[.slice va xs.length vc, .slice (some ⟨wr.heap.size, 0, none⟩) 2 2] 22) = w1 at hL hown2 hbw2 ⊢
      clear hw1 hown hbw hB
      refine (joined_any _ 2 _ _ _ rfl (by omega) hL (by have := Hm.out; simp; omega)).mono ?_
      rintro e w2 ⟨v2, rfl, hown3, hb3⟩
      rw [show ([xs, [(k : Int) / 256 % 256, (k : Int) % 256]] : List (List Int)).flatten = xs ++ [(k : Int) / 256 % 256, (k : Int) % 256] by simp] at hown3
      have hB3 := hown3.bytes (u8s_append h.1 (two_u8 hx1 hx2))
      have hown4 := hown2.below hb3
      have hbw3 := hbw2.trans (hb3.mono hbw2.size)
      clear hown3 hown2 hbw2 hb3
      go_wp2_with fail
      refine (rdigest_any _ _ _ (by have := Hm.out; simp; omega) hB3).mono ?_
      rintro e w3 ⟨gd, hgd, rfl, hrow, hb4⟩
      rw [foldB_append] at hrow
      have hB5 : BytesAt w3 (.slice (some ⟨gd, 0, none⟩) 8 8) (blk (foldB fnv0 xs) k) := row_bytes (cap := 8) hrow (dg_u8 _)
      have hown5 := hown4.below hb4
      have hbw5 := hbw3.trans (hb4.mono hbw3.size)
      clear hrow hown4 hbw3 hb4 hB3
      have hsb : Hid (_ = _) := strm_block (foldB fnv0 xs) k
      go_wp2_with (at_builtin; refine appendB rfl (.tmp 25) (.tmp 26) rfl w.heap.size (.slice a (8 * k) c) (.slice (some ⟨gd, 0, none⟩) 8 8) _ _ rfl hown5 rfl hB5 (by rw [strm_length, blk_length]; omega) hbw5.size ?_; intro v6 w6 own6 grow6)
      have hb6 : Below w.heap.size w w6 := hbw5.grown grow6 hbw5.size (fun q hq => (World.ownsRow.lt hown5 q hq).1)
      rw [← hsb.out] at own6
      obtain ⟨a6, c6, rfl, _⟩ := own6.shape
      rw [strm_length] at own6 ⊢
      clear hown5 hbw5 grow6 hB5
      go_wp2_with fail
      go_roundw
      case rel => exact ⟨k + 1, c6, _, a6, by omega, by go_num, rfl, rfl, own6, hb6⟩
      case measure => simp [intOf]; omega
    · have hlt2 : ¬ 8 * (k : Int) < (n : Int) := by omega
      obtain ⟨a7, c7, e7, hc7⟩ := hown.shape
      injection e7 with e8 e9 e10
      rw [strm_length] at hc7
      have hcap : (n : Int) ≤ (c : Int) := by omega
      have hBt := hown.take (strm_u8 _ _) n (by rw [strm_length]; omega)
      rw [strm_take _ _ _ (by omega)] at hBt
      clear hown e8 e9 e10 hc7
      go_wp2_with fail
      go_ret
      exact ⟨a, c, rfl, hBt, hbw⟩

set_option maxHeartbeats 400000 in
theorem rStream_bad (v : Value) (n : Int) (w : World) (h : n < 0 ∨ 1000 < n) :
    Calls Try.prog 16 #[v, .int .i64 n] w fun e w' => e = .returned (.tuple #[.slice none 0 0, .int .i64 3]) ∧ w' = w := by
  by_cases h0 : n < 0
  · go_enter Try.func16, Try.ntmps16
    go_wp2_with fail
    go_ret2
    exact ⟨rfl, rfl⟩
  · have h1 : 1000 < n := by omega
    go_enter Try.func16, Try.ntmps16
    go_wp2_with fail
    go_ret2
    exact ⟨rfl, rfl⟩

set_option maxHeartbeats 400000 in
theorem rStream_any (v : Value) (xs : List Int) (n : Nat) (w : World) (hn : n ≤ 1000) (hm : xs.length ≤ 140737488351232) (h : BytesAt w v xs) :
    Calls Try.prog 16 #[v, .int .i64 n] w fun e w' => ∃ a cap, e = .returned (.tuple #[.slice a n cap, .int .i64 0]) ∧ BytesAt w' (.slice a n cap) (strm (foldB fnv0 xs) n) ∧ Below w.heap.size w w' := by
  have h1 : (0 : Int) ≤ (n : Int) := by omega
  have h2 : (n : Int) ≤ 1000 := by omega
  go_enter Try.func16, Try.ntmps16
  go_wp2_with fail
  refine (rstream_any v xs n _ (by omega) hm h).mono ?_
  rintro e w1 ⟨a, cap, rfl, hB, hb⟩
  go_wp2_with fail
  go_ret2
  exact ⟨a, cap, rfl, hB, hb⟩
end Go.Proofs.Ytbohgkegchmnaaa.rs
