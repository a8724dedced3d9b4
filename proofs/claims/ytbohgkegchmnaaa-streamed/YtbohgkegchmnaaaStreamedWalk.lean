/- The walk of the law Streamed. -/
import Derived.Test.YtbohgkegchmnaaaDrawWalk
import Derived.Test.YtbohgkegchmnaaaPartedWalks
import Derived.Test.YtbohgkegchmnaaaBytesLaw
namespace Go.Proofs.Ytbohgkegchmnaaa.st
open Go.ChangeShapes Go.WideShapes Go.ChangeAt Go.RowKit Core cw nx sw ch rd dc bl

/-- Two coefficients are 1 or -1, the others 0. -/
def good (cs : List Int) : Bool := cs.all (fun c => c == 0 || c == 1 || c == 768) && (cs.filter (· != 0)).length == 2
theorem good_all : ∀ j : Fin 7, ∀ k : Fin 8, ∀ x : Fin 2, ∀ y : Fin 2,
    good ((((((([0, 0, 0, 0, 0, 0, 0, 0] : List Int).set 6 (([0, 0, 0, 0, 0, 0, 0, 0] : List Int)[j.val]?.getD 0)).set j.val (if x = 0 then 1 else -1)).set 7
      (((([0, 0, 0, 0, 0, 0, 0, 0] : List Int).set 6 (([0, 0, 0, 0, 0, 0, 0, 0] : List Int)[j.val]?.getD 0)).set j.val (if x = 0 then 1 else -1))[k.val]?.getD 0)).set k.val (if y = 0 then 1 else -1)).map (· % 769))) = true := by decide +kernel
theorem sgn_fin (s : Int) (i : Nat) : ∃ x : Fin 2, sgn s i = if x = 0 then 1 else -1 := by
  unfold sgn
  split
  · exact ⟨1, by simp⟩
  · exact ⟨0, by simp⟩
theorem chMod_good (s : Int) : good (chMod s) = true := by
  obtain ⟨j, i, hp, hj, _⟩ := place_nat s 6 0
  have h6 := chStep_of s 6 [0, 0, 0, 0, 0, 0, 0, 0] 0 hp
  obtain ⟨k, i', hp', _, hk⟩ := place_nat s 7 (i + 1)
  have h7 := chStep_of s 7 ((([0, 0, 0, 0, 0, 0, 0, 0] : List Int).set 6 (([0, 0, 0, 0, 0, 0, 0, 0] : List Int)[j]?.getD 0)).set j (sgn s i)) (i + 1) hp'
  obtain ⟨x, hx⟩ := sgn_fin s i
  obtain ⟨y, hy⟩ := sgn_fin s i'
  unfold chMod chal
  rw [h6, h7, hx, hy]
  exact good_all ⟨j, by omega⟩ ⟨k, by omega⟩ x y

/-- How many of the first q are not 0. -/
def cnt (cs : List Int) (q : Nat) : Nat := ((cs.take q).filter (· != 0)).length
theorem cnt_le (cs : List Int) (q : Nat) : cnt cs q ≤ q := Nat.le_trans (List.length_filter_le _ _) (List.length_take_le _ _)
theorem cnt_succ (cs : List Int) (q : Nat) (h : q < cs.length) : cnt cs (q + 1) = if cs[q]?.getD 0 != 0 then cnt cs q + 1 else cnt cs q := by
  unfold cnt
  rw [List.take_succ_eq_append_getElem h, List.filter_append, List.length_append, List.getElem?_eq_getElem h]
  simp only [Option.getD_some, List.filter_cons, List.filter_nil]
  split <;> simp
theorem good_at {cs : List Int} (h : good cs = true) (q : Nat) : cs[q]?.getD 0 = 0 ∨ cs[q]?.getD 0 = 1 ∨ cs[q]?.getD 0 = 768 := by
  by_cases hq : q < cs.length
  · unfold good at h
    simp only [Bool.and_eq_true, List.all_eq_true] at h
    have := h.1 cs[q] (List.getElem_mem hq)
    rw [List.getElem?_eq_getElem hq]
    simp at this
    simpa [or_assoc] using this
  · rw [List.getElem?_eq_none (by omega)]; simp
theorem good_cnt {cs : List Int} (h : good cs = true) (hl : cs.length = 8) : cnt cs 8 = 2 := by
  unfold good at h
  simp only [Bool.and_eq_true, beq_iff_eq] at h
  unfold cnt
  rw [List.take_of_length_le (by omega)]
  exact h.2

set_option maxHeartbeats 1000000 in
theorem walk (s : ByteArray) (n m : Int) (w : World) (hs : s.size ≤ 140737488351232) (hn : -9223372036854775808 ≤ n ∧ n ≤ 9223372036854775807) (hm : -9223372036854775808 ≤ m ∧ m ≤ 9223372036854775807) :
    Calls Try.prog 5 #[.string s, .int .i64 n, .int .i64 m] w fun e w' => e = .returned (.bool true) ∧ Below w.heap.size w w' := by
  obtain ⟨cap, C, fr, hcv, hB⟩ := cv s w
  have hbw : Below w.heap.size w (w.alloc (.cells C 5 fr)).drew := ((Below.refl _ _).alloc (Nat.le_refl _) _).drew
  have hB' : BytesAt (w.alloc (.cells C 5 fr)).drew (.slice (some ⟨w.heap.size, 0, none⟩) s.size cap) (nums s) := hB
  clear hB
  obtain ⟨k0, k1⟩ := PartedPlain.pk_bd n 1001 (by omega)
  generalize hk : PartedPlain.pk n 1001 = k at *
  have Hk : Hid _ := hk
  clear hk
  obtain ⟨j0, j1⟩ := PartedPlain.pk_bd m (k + 1) (by omega)
  generalize hj : PartedPlain.pk m (k + 1) = j at *
  have Hj : Hid _ := hj
  clear hj
  go_enter Try.func5, Try.ntmps5
  go_wp2_with fail
  generalize (w.alloc (.cells C 5 fr)).drew = w1 at *
  clear hcv
  refine (parted.pick_any n 1001 _ (by omega) (by omega) (by omega) (by omega)).mono ?_
  rintro e w2 ⟨rfl, rfl⟩
  rw [Hk.out]
  go_wp2_with fail
  refine (parted.pick_any m (k + 1) _ (by omega) (by omega) (by omega) (by omega)).mono ?_
  rintro e w2 ⟨rfl, rfl⟩
  rw [Hj.out]
  go_wp2_with fail
  obtain ⟨K, rfl⟩ := Int.eq_ofNat_of_zero_le k0
  obtain ⟨J, rfl⟩ := Int.eq_ofNat_of_zero_le j0
  clear Hk Hj
  have hKJ : J ≤ K := by omega
  have hK : K ≤ 1000 := by omega
  have hlen : (nums s).length ≤ 140737488351232 := by rw [nums_length]; exact hs
  refine (stream_any _ (nums s) K _ hK (by omega) hB').mono ?_
  rintro e w3 ⟨gx, hgx, rfl, hrx, hb3⟩
  have hB3 := hB'.below hb3
  have hbw3 : Below w.heap.size w w3 := hbw.trans (hb3.mono hbw.size)
  generalize hS : foldB fnv0 (nums s) = S at *
  have HS : Hid (foldB fnv0 (nums s) = S) := hS
  clear hS hB' hb3 hbw
  go_wp2_with fail
  refine (stream_any _ (nums s) J _ (by omega) (by omega) hB3).mono ?_
  rintro e w4 ⟨gy, hgy, rfl, hry, hb4⟩
  rw [HS.out] at hry
  have hB4 := hB3.below hb4
  have hbw4 : Below w.heap.size w w4 := hbw3.trans (hb4.mono hbw3.size)
  have hrx4 := (hb4.block gx (lt_of_row hrx)).trans hrx
  clear hB3 hbw3 hrx hb4
  have hcx : ∀ i, i < K → w4.cell? ⟨gx, 0 + i, none⟩ = some (.int .u8 (sb S i)) := by
    intro i hi
    rw [Nat.zero_add, cell_of_row w4 gx i _ _ _ hrx4, vs_get _ _ (by rw [strm_length]; exact hi), strm_get _ _ _ hi]
  have hcy : ∀ i, i < J → w4.cell? ⟨gy, 0 + i, none⟩ = some (.int .u8 (sb S i)) := by
    intro i hi
    rw [Nat.zero_add, cell_of_row w4 gy i _ _ _ hry, vs_get _ _ (by rw [strm_length]; exact hi), strm_get _ _ _ hi]
  have hvx : ∀ nq, (convert 22 9 (.slice (some ⟨gx, 0, none⟩) J K)).run Try.prog (w4.drewN nq) = .ok (.string (strOfNums (strm S J))) (w4.drewN nq) := by
    have h := conv_at (w := w4) (b := gx) (off := 0) (cap := K) (xs := strm S J) (by intro i hi; rw [strm_length] at hi; rw [strm_get _ _ _ hi]; exact hcx i (by omega))
    rwa [strm_length] at h
  have hvy : ∀ nq, (convert 22 9 (.slice (some ⟨gy, 0, none⟩) J J)).run Try.prog (w4.drewN nq) = .ok (.string (strOfNums (strm S J))) (w4.drewN nq) := by
    have h := conv_at (w := w4) (b := gy) (off := 0) (cap := J) (xs := strm S J) (by intro i hi; rw [strm_length] at hi; rw [strm_get _ _ _ hi]; exact hcy i hi)
    rwa [strm_length] at h
  have hvx0 := conv_drewN hvx
  have hvy0 := conv_drewN hvy
  generalize strOfNums (strm S J) = T at *
  clear hcx hcy hry
  have hKi : (0 : Int) ≤ (J : Int) := by omega
  have hKi2 : (J : Int) ≤ (K : Int) := by omega
  have Hrx : Hid _ := hrx4
  clear hrx4
  go_wp2_with fail
  go_quiet (fail)
  go_wp2_with fail
  have Hlen : Hid ((nums s).length ≤ 140737488351232) := hlen
  clear hvx0 hvy0 hKi hKi2 hlen hs hn hm
  have hB5 : BytesAt (w4.drewN nq) (.slice (some ⟨w.heap.size, 0, none⟩) s.size cap) (nums s) := hB4
  have Hrx5 : Hid ((w4.drewN nq).heap[gx]? = some (.cells (vs (strm S K)) 5 (0, 0))) := Hrx
  have hbw5 : Below w.heap.size w (w4.drewN nq) := ⟨hbw4.os, hbw4.tape, hbw4.output, hbw4.size, hbw4.block⟩
  clear hB4 Hrx hbw4
  generalize w4.drewN nq = w5 at *
  go_loopw [14] (fun iv wr => ∃ i : Nat, 8 * i ≤ K ∧ iv = .int .i64 i ∧ BytesAt wr (.slice (some ⟨w.heap.size, 0, none⟩) s.size cap) (nums s) ∧ Hid (wr.heap[gx]? = some (.cells (vs (strm S K)) 5 (0, 0))) ∧ Below w.heap.size w wr) (fun iv _ => K - (intOf iv).toNat)
  case atStart => exact ⟨0, by omega, rfl, hB5, Hrx5, hbw5⟩
  case round =>
    clear hB5 Hrx5 hbw5
    obtain ⟨i, hi, rfl, hB, Hrx, hbw⟩ := hrel
    by_cases hlt : 8 * i + 8 ≤ K
    · have hlti : 8 * (i : Int) + 8 ≤ (K : Int) := by omega
      have hi3 : 0 ≤ (i : Int) / 256 ∧ (i : Int) / 256 ≤ 255 := by omega
      have hi4 : 0 ≤ (i : Int) % 256 ∧ (i : Int) % 256 ≤ 255 := by omega
      go_wp2_with (first | (at_builtin; refine appendB rfl (.tmp 76) (.tmp 77) rfl wr.heap.size (.slice none 0 0) (.slice (some ⟨w.heap.size, 0, none⟩) s.size cap) [] (nums s) rfl (OwnB.nil _ _) rfl hB (by have := Hlen.out; simp; omega) (Nat.le_refl _) ?_; intro v1 w6 own1 grow1) | (at_builtin; refine appendB rfl (.tmp 79) (.tmp 86) rfl wr.heap.size v1 (.slice (some ⟨w6.heap.size, 0, none⟩) 2 2) _ [(i : Int) / 256, (i : Int) % 256] rfl (own1.alloc _) rfl (two_bytes w6 _ _ hi3 hi4) (by have := Hlen.out; simp; omega) (by have := grow1.size; simp; omega) ?_; intro v2 w7 own2 grow2))
      have hb6 : Below wr.heap.size wr w6 := (Below.refl _ _).grown grow1 (Nat.le_refl _) (by intro k hk; cases hk)
      have hb7 : Below wr.heap.size wr w7 := (hb6.alloc hb6.size _).grown grow2 (by have := hb6.size; simp; omega) (fun k hk => (World.ownsRow.lt own1 k hk).1)
      have hB7 := hB.below hb7
      have hl := own2.bytes (u8s_append (by rw [List.nil_append]; exact nums_u8 s) (two_u8 hi3 hi4))
      clear own1 grow1 own2 grow2 hb6
      refine (digest_any v2 _ _ (by have := Hlen.out; simp; omega) hl).mono ?_
      rintro e w8 ⟨gd, hgd, rfl, hrd, hb8⟩
      rw [List.nil_append, foldB_append, HS.out] at hrd
      have hB8 := hB7.below hb8
      have Hrx8 : Hid (w8.heap[gx]? = some (.cells (vs (strm S K)) 5 (0, 0))) := (hb8.block gx (by have h1 := lt_of_row Hrx.out; have h2 := hb7.size; omega)).trans ((hb7.block gx (lt_of_row Hrx.out)).trans Hrx.out)
      have hbw8 : Below w.heap.size w w8 := hbw.trans ((hb7.mono hbw.size).trans (hb8.mono (by have := hb7.size; have := hbw.size; omega)))
      clear hB hB7 Hrx hbw hb7 hb8 hl
      have hvd : ∀ nq, (convert 22 9 (.slice (some ⟨gd, 0, none⟩) 8 8)).run Try.prog (w8.drewN nq) = .ok (.string (strOfNums (dg (foldB S [(i : Int) / 256, (i : Int) % 256])))) (w8.drewN nq) :=
        conv_at (w := w8) (b := gd) (off := 0) (cap := 8) (xs := dg (foldB S [(i : Int) / 256, (i : Int) % 256])) (by intro t ht; rw [Nat.zero_add, cell_of_row w8 gd t _ _ _ hrd, vs_get _ _ ht])
      have hvx : ∀ nq, (convert 22 9 (.slice (some ⟨gx, 8 * i, none⟩) 8 (K - 8 * i))).run Try.prog (w8.drewN nq) = .ok (.string (strOfNums (dg (foldB S [(i : Int) / 256, (i : Int) % 256])))) (w8.drewN nq) :=
        conv_at (w := w8) (b := gx) (off := 8 * i) (cap := K - 8 * i) (xs := dg (foldB S [(i : Int) / 256, (i : Int) % 256])) (by intro t ht; rw [cell_of_row w8 gx _ _ _ _ Hrx8.out, vs_get _ _ (by rw [strm_length]; rw [dg_length] at ht; omega), strm_get _ _ _ (by rw [dg_length] at ht; omega), sb_block S i t (by omega) ht])
      have hvd0 := conv_drewN hvd
      have hvx0 := conv_drewN hvx
      generalize strOfNums (dg (foldB S [(i : Int) / 256, (i : Int) % 256])) = D at *
      clear hrd
      have hx1 : (0 : Int) ≤ 8 * (i : Int) := by omega
      have hx2 : 8 * (i : Int) ≤ 8 * (i : Int) + 8 := by omega
      go_wp2_with fail
      go_quiet (fail)
      go_wp2_with fail
      go_roundw
      case rel => exact ⟨i + 1, by omega, by go_num, hB8, Hrx8, ⟨hbw8.os, hbw8.tape, hbw8.output, hbw8.size, hbw8.block⟩⟩
      case measure => simp [intOf]; omega
    · have hlti : ¬ 8 * (i : Int) + 8 ≤ (K : Int) := by omega
      clear Hrx
      go_wp2_with fail
      refine (digest_any _ _ _ (by have := Hlen.out; omega) hB).mono ?_
      rintro e w6 ⟨gt, hgt, rfl, hrt, hb6⟩
      have hbt := row_bytes (cap := 8) hrt (dg_u8 _)
      have hbw6 := hbw.trans (hb6.mono hbw.size)
      clear hB hbw hb6 hrt
      go_wp2_with fail
      refine (challenge_any _ _ _ (dg_length _) hbt).mono ?_
      rintro e w7 ⟨c0, c1, c2, c3, c4, c5, c6, c7, Hc, rfl, hb7⟩
      have hbw7 := hbw6.trans (hb7.mono hbw6.size)
      have hgood := chMod_good (foldB (foldB fnv0 (dg (foldB fnv0 (nums s)))) [4])
      rw [Hc.out] at hgood
      clear Hc hbt hb7 hbw6
      go_wp2_with fail
      have hrow : (w7.alloc (.cells #[.int .i64 c0, .int .i64 c1, .int .i64 c2, .int .i64 c3, .int .i64 c4, .int .i64 c5, .int .i64 c6, .int .i64 c7] 39)).heap[w7.heap.size]? = some (.cells (is [c0, c1, c2, c3, c4, c5, c6, c7]) 39 (0, 0)) := heap_alloc_new _ _
      have hbw8 : Below w.heap.size w (w7.alloc (.cells #[.int .i64 c0, .int .i64 c1, .int .i64 c2, .int .i64 c3, .int .i64 c4, .int .i64 c5, .int .i64 c6, .int .i64 c7] 39)) := hbw7.alloc hbw7.size _
      generalize w7.alloc (.cells #[.int .i64 c0, .int .i64 c1, .int .i64 c2, .int .i64 c3, .int .i64 c4, .int .i64 c5, .int .i64 c6, .int .i64 c7] 39) = w8 at *
      have hcell : ∀ q, q < 8 → w8.cell? ⟨w7.heap.size, q, none⟩ = some (.int .i64 (([c0, c1, c2, c3, c4, c5, c6, c7] : List Int)[q]?.getD 0)) := fun q hq => (cell_of_row w8 _ q _ _ _ hrow).trans (is_get _ q hq)
      have hcl : ([c0, c1, c2, c3, c4, c5, c6, c7] : List Int).length = 8 := rfl
      have Hcl : Hid _ := hcl
      generalize hcs : ([c0, c1, c2, c3, c4, c5, c6, c7] : List Int) = cs at *
      have Hgood : Hid _ := hgood
      clear hcs hcl hrow hgood hbw7 hi hlt hlti
      go_loop [20, 21] (fun sv iv => ∃ q : Nat, q ≤ 8 ∧ iv = .int .i64 q ∧ sv = .int .i64 (cnt cs q)) (fun _ iv => 8 - (intOf iv).toNat)
      case atStart => exact ⟨0, by omega, rfl, rfl⟩
      case round =>
        obtain ⟨q, hq, rfl, rfl⟩ := hrel
        have hcq := cnt_le cs q
        by_cases hlt2 : q < 8
        · have hlt3 : (q : Int) < 8 := by omega
          have hx := hcell q hlt2
          have hcs := cnt_succ cs q (by rw [Hcl.out]; exact hlt2)
          have hgd := good_at Hgood.out q
          clear hcell
          generalize cs[q]?.getD 0 = x at *
          have Hcs : Hid _ := hcs
          clear hcs
          generalize cnt cs q = m at *
          rcases hgd with rfl | rfl | rfl
          · go_wp2_with fail
            go_round
            case rel => exact ⟨q + 1, by omega, by go_num, by rw [Hcs.out]; rfl⟩
            case measure => simp [intOf]; omega
          · go_wp2_with fail
            go_round
            case rel => exact ⟨q + 1, by omega, by go_num, by rw [Hcs.out]; go_num⟩
            case measure => simp [intOf]; omega
          · go_wp2_with fail
            go_round
            case rel => exact ⟨q + 1, by omega, by go_num, by rw [Hcs.out]; go_num⟩
            case measure => simp [intOf]; omega
        · have hc2 : (cnt cs q : Int) = 2 := by
            rw [show q = 8 by omega]
            exact_mod_cast good_cnt Hgood.out Hcl.out
          have hlt3 : ¬ (q : Int) < 8 := by omega
          clear hcell hcq
          have hc3 : ((cnt cs q : Int) == 2) = true := by rw [beq_iff_eq]; exact hc2
          clear hc2
          go_wp2_with fail
          go_ret
          exact ⟨rfl, hbw8⟩
end Go.Proofs.Ytbohgkegchmnaaa.st
