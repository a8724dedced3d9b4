/- The walks of pick, IsNumber, Parts and Parted. -/
import Derived.Test.YtbohgkegchmnaaaRows
import Derived.Test.YtbohgkegchmnaaaPartedPlain
import Derived.WalkKit
import Derived.ProofKit
import Derived.OpenShut
namespace Go.Proofs.Ytbohgkegchmnaaa.parted
open Go.ChangeShapes Go.WideShapes Go.ChangeAt Go.RowKit PartedPlain

theorem ret_int {k : IntKind} {a b : Int} (h : a = b) : Ending.returned (.int k a) = .returned (.int k b) := by rw [h]
theorem ret_int2 {k l : IntKind} {a b c d : Int} (h : a = b) (h' : c = d) : Ending.returned (.tuple #[.int k a, .int l c]) = .returned (.tuple #[.int k b, .int l d]) := by rw [h, h']

theorem pk_neg (c n : Int) (hc : c < 0) : -((c + 1).tmod n) = pk c n := by
  unfold pk
  rw [if_pos hc, ← Int.neg_tmod, Int.tmod_eq_emod_of_nonneg (by omega)]
theorem pk_pos (c n : Int) (hc : ¬ c < 0) : c % n = pk c n := by
  unfold pk; rw [if_neg hc]

set_option maxHeartbeats 400000 in
theorem pick_any (c n : Int) (w : World) (hn : 0 < n) (hn2 : n < 100000) (h1 : -9223372036854775808 ≤ c) (h2 : c < 9223372036854775808) :
    Calls Try.prog 8 #[.int .i64 c, .int .i64 n] w fun e w' => e = .returned (.int .i64 (pk c n)) ∧ w' = w := by
  by_cases hc : c < 0
  · go_enter Try.func8, Try.ntmps8
    go_wp2
    go_ret
    exact ⟨ret_int (pk_neg c n hc), rfl⟩
  · go_enter Try.func8, Try.ntmps8
    go_wp2
    go_ret
    exact ⟨ret_int (pk_pos c n (by omega)), rfl⟩

set_option maxHeartbeats 400000 in
theorem ringParts_any (r : Int) (w : World) (h0 : 0 ≤ r) (h1 : r < 769) :
    Calls Try.prog 21 #[.int .i64 r] w fun e w' => e = .returned (.tuple #[.int .i64 (hi r), .int .i64 (lo r)]) ∧ w' = w := by
  by_cases hc : 48 < r % 96
  · by_cases hd : r - (r % 96 - 96) = 768
    · have hd' : (r - (r % 96 - 96) == 768) = true := by rw [beq_iff_eq]; exact hd
      clear hd
      go_enter Try.func21, Try.ntmps21
      go_wp2
      go_ret2
      exact ⟨ret_int2 (by simp at hd'; unfold hi lo0; omega) (by simp at hd'; unfold lo lo0; omega), rfl⟩
    · have hd' : (r - (r % 96 - 96) == 768) = false := by rw [beq_eq_false_iff_ne]; exact hd
      clear hd
      go_enter Try.func21, Try.ntmps21
      go_wp2
      go_ret2
      exact ⟨ret_int2 (by simp at hd'; unfold hi lo0; omega) (by simp at hd'; unfold lo lo0; omega), rfl⟩
  · by_cases hd : r - (r % 96) = 768
    · have hd' : (r - (r % 96) == 768) = true := by rw [beq_iff_eq]; exact hd
      clear hd
      go_enter Try.func21, Try.ntmps21
      go_wp2
      go_ret2
      exact ⟨ret_int2 (by simp at hd'; unfold hi lo0; omega) (by simp at hd'; unfold lo lo0; omega), rfl⟩
    · have hd' : (r - (r % 96) == 768) = false := by rw [beq_eq_false_iff_ne]; exact hd
      clear hd
      go_enter Try.func21, Try.ntmps21
      go_wp2
      go_ret2
      exact ⟨ret_int2 (by simp at hd'; unfold hi lo0; omega) (by simp at hd'; unfold lo lo0; omega), rfl⟩

set_option maxHeartbeats 400000 in
theorem isNumber_yes (r : Int) (w : World) (h0 : 0 ≤ r) (h1 : r < 769) :
    Calls Try.prog 20 #[.int .i64 r] w fun e w' => e = .returned (.bool true) ∧ w' = w := by
  go_enter Try.func20, Try.ntmps20
  go_wp2
  go_ret
  exact ⟨rfl, rfl⟩

set_option maxHeartbeats 400000 in
theorem parts_any (r : Int) (w : World) (h0 : 0 ≤ r) (h1 : r < 769) :
    Calls Try.prog 9 #[.int .i64 r] w fun e w' => e = .returned (.tuple #[.int .i64 (hi r), .int .i64 (lo r), .int .i64 0]) ∧ w' = w := by
  go_enter Try.func9, Try.ntmps9
  go_wp2_with fail
  refine (isNumber_yes r _ h0 h1).mono ?_
  rintro e w' ⟨rfl, rfl⟩
  go_wp2_with fail
  refine (ringParts_any r _ h0 h1).mono ?_
  rintro e w' ⟨rfl, rfl⟩
  go_wp2_with fail
  go_ret3
  exact ⟨rfl, rfl⟩

set_option maxHeartbeats 800000 in
theorem walk (a0 : Int) (a1 : Int) (w0 : (Lit.int .i64 a0).wf = true) (w1 : (Lit.int .i64 a1).wf = true) (w : World) :
    Calls Try.prog 4 #[.int .i64 a0, .int .i64 a1] w fun e w' => e = .returned (.bool true) ∧ Grown w w' := by
  have b0 := bounds_i64 w0
  have b1 := bounds_i64 w1
  obtain ⟨r0, r1⟩ := pk_bd a0 769 (by omega)
  obtain ⟨d0, d1⟩ := pk_bd a1 5 (by omega)
  generalize hr : pk a0 769 = r at *
  generalize hd : pk a1 5 = d at *
  have Hr : Hid (pk a0 769 = r) := hr; clear hr
  have Hd : Hid (pk a1 5 = d) := hd; clear hd
  obtain ⟨i0, i1⟩ := hi_bd r r0 r1
  obtain ⟨l0, l1⟩ := lo_bd r r0 r1
  have hs := sum_mod r r0 r1
  have hcl := close r (d - 2) r0 r1 (by omega) (by omega)
  go_enter Try.func4, Try.ntmps4
  go_wp2_with fail
  refine (pick_any a0 769 _ (by omega) (by omega) (by omega) (by omega)).mono ?_
  rintro e w' ⟨rfl, rfl⟩
  rw [Hr.out]
  go_wp2_with fail
  refine (parts_any r _ r0 r1).mono ?_
  rintro e w' ⟨rfl, rfl⟩
  rw [Int.add_emod_right] at hcl
  have Hcl : Hid (lo r < 46 → -46 < lo r → hi ((r + (d - 2)) % 769) = hi r ∧ lo ((r + (d - 2)) % 769) = lo r + (d - 2)) := hcl
  clear hcl
  generalize hH : hi r = H at *
  generalize hL : lo r = L at *
  clear hH hL
  have hs' : ((96 * H + L + 1538 - r) % 769 != 0) = false := by rw [hs]; rfl
  clear hs
  by_cases hl : L < 46
  · by_cases hl2 : -46 < L
    · obtain ⟨c1, c2⟩ := Hcl.out hl hl2
      clear Hcl
      have C1 : Hid _ := c1
      have C2 : Hid _ := c2
      clear c1 c2
      go_wp2_with fail
      refine (pick_any a1 5 _ (by omega) (by omega) (by omega) (by omega)).mono ?_
      rintro e w' ⟨rfl, rfl⟩
      rw [Hd.out]
      go_wp2_with fail
      refine (parts_any _ _ (by omega) (by omega)).mono ?_
      rintro e w' ⟨rfl, rfl⟩
      rw [C1.out, C2.out]
      go_wp2_with fail
      go_ret
      exact ⟨by simp, Grown.refl _⟩
    · clear Hcl
      go_wp2_with fail
      refine (pick_any a1 5 _ (by omega) (by omega) (by omega) (by omega)).mono ?_
      rintro e w' ⟨rfl, rfl⟩
      rw [Hd.out]
      go_wp2_with fail
      go_ret
      exact ⟨rfl, Grown.refl _⟩
  · clear Hcl
    go_wp2_with fail
    refine (pick_any a1 5 _ (by omega) (by omega) (by omega) (by omega)).mono ?_
    rintro e w' ⟨rfl, rfl⟩
    rw [Hd.out]
    go_wp2_with fail
    go_ret
    exact ⟨rfl, Grown.refl _⟩
end Go.Proofs.Ytbohgkegchmnaaa.parted
