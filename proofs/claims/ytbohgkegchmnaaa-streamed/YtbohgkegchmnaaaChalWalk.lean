/- The walks of draw.sign, draw.search, draw.Challenge's literal. -/
import Derived.Test.YtbohgkegchmnaaaStreamWalk
namespace Go.Proofs.Ytbohgkegchmnaaa.ch
open Go.ChangeShapes Go.WideShapes Go.ChangeAt Go.RowKit Core cw nx sw

/-- The place that is drawn, and how many bytes have been given then; f: how many may be. -/
def place (s lim : Int) : Nat → Nat → Int × Nat
  | 0, i => (0, i)
  | f + 1, i => if sb s i % 8 ≤ lim then (sb s i % 8, i + 1) else place s lim f (i + 1)
def sgn (s : Int) (i : Nat) : Int := if sb s i % 2 = 1 then -1 else 1
def most : Nat := 524288
theorem most_eq : most = 524288 := rfl
theorem hid_of {p : Prop} (h : p) : Hid p := h
theorem place_bd (s lim : Int) (h : 0 ≤ lim) : ∀ f i, 0 ≤ (place s lim f i).1 ∧ (place s lim f i).1 ≤ lim ∧ (place s lim f i).1 ≤ 7 := by
  intro f
  induction f with
  | zero => intro i; simp [place, h]
  | succ f ih =>
    intro i
    have hb := sb_bd s i
    unfold place
    split
    · simp only; omega
    · exact ih (i + 1)

set_option maxHeartbeats 400000 in
theorem sign_any (s : Int) (g i : Nat) (w : World) (hs : u64ok s) (h : RdAt w g s i) :
    Calls Try.prog 30 #[.pointer (some ⟨g, 0, none⟩)] w fun e w' => e = .returned (.int .i64 (sgn s i)) ∧ RdAt w' g s (i + 1) ∧ But (· = g) w w' := by
  have hb := sb_bd s i
  by_cases h1 : sb s i % 2 = 1
  · have h2 : (sb s i % 2 == 1) = true := by rw [beq_iff_eq]; exact h1
    have hx : sgn s i = -1 := if_pos h1
    clear h1
    have Hx : Hid _ := hx
    clear hx
    go_enter Try.func30, Try.ntmps30
    go_wp2_with fail
    refine (next_any s g i _ hs h).mono ?_
    rintro e w1 ⟨rfl, hrd', hbut⟩
    generalize hxx : sb s i = x at *
    clear hxx
    go_wp2_with fail
    go_ret
    exact ⟨ret_int Hx.out.symm, hrd', hbut⟩
  · have h2 : (sb s i % 2 == 1) = false := by rw [beq_eq_false_iff_ne]; exact h1
    have hx : sgn s i = 1 := if_neg h1
    clear h1
    have Hx : Hid _ := hx
    clear hx
    go_enter Try.func30, Try.ntmps30
    go_wp2_with fail
    refine (next_any s g i _ hs h).mono ?_
    rintro e w1 ⟨rfl, hrd', hbut⟩
    generalize hxx : sb s i = x at *
    clear hxx
    go_wp2_with fail
    go_ret
    exact ⟨ret_int Hx.out.symm, hrd', hbut⟩

/-- k bytes have been tried. -/
def Pl (s lim : Int) (M i k : Nat) : Prop := place s lim (M - k) (i + k) = place s lim M i
theorem Pl.hit {s lim : Int} {M i k : Nat} (h : Pl s lim M i k) (hk : k < M) (hj : sb s (i + k) % 8 ≤ lim) : place s lim M i = (sb s (i + k) % 8, i + k + 1) := by
  rw [← h, show M - k = (M - (k + 1)) + 1 by omega]
  show (if _ then _ else _) = _
  rw [if_pos hj]
theorem Pl.miss {s lim : Int} {M i k : Nat} (h : Pl s lim M i k) (hk : k < M) (hj : ¬ sb s (i + k) % 8 ≤ lim) : Pl s lim M i (k + 1) := by
  unfold Pl at *
  rw [← h, show M - k = (M - (k + 1)) + 1 by omega]
  show _ = (if _ then _ else _)
  rw [if_neg hj]; rfl
theorem Pl.stop {s lim : Int} {M i : Nat} (h : Pl s lim M i M) : place s lim M i = (0, i + M) := by
  rw [← h, Nat.sub_self]; rfl

/-- One draw of a place: a byte modulo 8, and whether it is no more than what the captured variable holds. -/
theorem fit_any (s lim : Int) (g b i : Nat) (w : World) (hs : u64ok s) (h : RdAt w g s i) (hb : w.heap[b]? = some (.cells #[.int .i64 lim] 3 (0, 0))) (hbg : b ≠ g) :
    Calls Try.prog 29 #[.pointer (some ⟨g, 0, none⟩), .pointer (some ⟨b, 0, none⟩)] w fun e w' => e = .returned (.tuple #[.int .i64 (sb s i % 8), .bool (decide (sb s i % 8 ≤ lim))]) ∧ RdAt w' g s (i + 1) ∧ But (· = g) w w' := by
  have hbd := sb_bd s i
  go_enter Try.func29, Try.ntmps29
  go_wp2_with fail
  refine (next_any s g i _ hs h).mono ?_
  rintro e w1 ⟨rfl, hrd', hbut⟩
  have hb1 : w1.heap[b]? = some (.cells #[.int .i64 lim] 3 (0, 0)) := (hbut.block _ (lt_of_row hb) hbg).trans hb
  have cb : w1.cell? ⟨b, 0, none⟩ = some (.int .i64 lim) := cell_of_row w1 b 0 _ _ _ hb1
  clear hb1
  generalize hxx : sb s i = x at *
  have Hxx : Hid (sb s i = x) := hxx
  clear hxx
  go_wp2_with fail
  go_quiet (fail)
  go_wp2
  go_ret2
  rw [Hxx.out]
  exact ⟨rfl, hrd', hbut.drewN nq⟩

set_option maxRecDepth 100000 in
set_option maxHeartbeats 400000 in
theorem place_at (M : Nat) (hM : Hid (M = 524288)) (s lim : Int) (g b i : Nat) (w : World) (hs : u64ok s) (h : RdAt w g s i) (hb : w.heap[b]? = some (.cells #[.int .i64 lim] 3 (0, 0))) (hbg : b ≠ g) :
    Calls Try.prog 28 #[.pointer (some ⟨g, 0, none⟩), .func (.func 29) #[] #[.pointer (some ⟨b, 0, none⟩)]] w fun e w' => e = .returned (.int .i64 (place s lim M i).1) ∧ RdAt w' g s (place s lim M i).2 ∧ But (· = g) w w' := by
  go_enter Try.func28, Try.ntmps28
  go_wp2_with fail
  go_loopw [7] (fun c wr => ∃ k : Nat, k ≤ M ∧ c = .int .i64 k ∧ Pl s lim M i k ∧ RdAt wr g s (i + k) ∧ But (· = g) w wr) (fun c _ => M - (intOf c).toNat)
  case atStart => exact ⟨0, Nat.zero_le _, rfl, rfl, h, But.refl _ _⟩
  case round =>
    obtain ⟨k, hk, rfl, hp, hrd, hbw⟩ := hrel
    have hbw1 := (hbw.block _ (lt_of_row hb) hbg).trans hb
    by_cases hlt : k < M
    · have hbd := sb_bd s (i + k)
      have hlt' : (k : Int) < 524288 := by rw [hM.out] at hlt; omega
      by_cases hj : sb s (i + k) % 8 ≤ lim
      · have Hp : Hid _ := hp.hit hlt hj
        clear hp
        go_wp2_with fail
        refine (fit_any s lim g b (i + k) _ hs hrd hbw1 hbg).mono ?_
        rintro e w1 ⟨rfl, hrd', hbut⟩
        have hb2 := hbw.trans hbut
        clear hrd hbw hbut hbw1
        generalize hxx : sb s (i + k) = x at *
        clear hxx
        go_wp2_with fail
        go_ret
        rw [Hp.out]
        exact ⟨rfl, hrd', hb2⟩
      · have hp2 := hp.miss hlt hj
        clear hp
        go_wp2_with fail
        refine (fit_any s lim g b (i + k) _ hs hrd hbw1 hbg).mono ?_
        rintro e w1 ⟨rfl, hrd', hbut⟩
        have hb2 := hbw.trans hbut
        clear hrd hbw hbut hbw1
        generalize hxx : sb s (i + k) = x at *
        have hk3 : k ≤ 140737488355328 := by omega
        have Hlt : Hid (k < M) := hlt
        clear hxx hlt hlt'
        go_wp2_with fail
        go_roundw
        case rel => exact ⟨k + 1, by have := Hlt.out; omega, by go_num, hp2, hrd', hb2⟩
        case measure => simp [intOf]; have := Hlt.out; omega
    · have hlt' : ¬ (k : Int) < 524288 := by rw [hM.out] at hlt; omega
      obtain rfl : k = M := by omega
      go_wp2_with fail
      go_ret
      rw [hp.stop]
      exact ⟨rfl, hrd, hbw⟩
theorem place_any (s lim : Int) (g b i : Nat) (w : World) (hs : u64ok s) (h : RdAt w g s i) (hb : w.heap[b]? = some (.cells #[.int .i64 lim] 3 (0, 0))) (hbg : b ≠ g) :
    Calls Try.prog 28 #[.pointer (some ⟨g, 0, none⟩), .func (.func 29) #[] #[.pointer (some ⟨b, 0, none⟩)]] w fun e w' => e = .returned (.int .i64 (place s lim most i).1) ∧ RdAt w' g s (place s lim most i).2 ∧ But (· = g) w w' :=
  place_at most most_eq s lim g b i w hs h hb hbg
end Go.Proofs.Ytbohgkegchmnaaa.ch
