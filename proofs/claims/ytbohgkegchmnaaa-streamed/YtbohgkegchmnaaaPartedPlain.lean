/- Plain arithmetic of high and low parts. -/
namespace Go.Proofs.Ytbohgkegchmnaaa.PartedPlain
def pk (c n : Int) : Int := if c < 0 then (-(c + 1)) % n else c % n
theorem pk_bd (c n : Int) (h : 0 < n) : 0 ≤ pk c n ∧ pk c n < n := by
  unfold pk
  split
  · exact ⟨Int.emod_nonneg _ (by omega), Int.emod_lt_of_pos _ h⟩
  · exact ⟨Int.emod_nonneg _ (by omega), Int.emod_lt_of_pos _ h⟩
def lo0 (r : Int) : Int := if 48 < r % 96 then r % 96 - 96 else r % 96
def hi (r : Int) : Int := if r - lo0 r = 768 then 0 else (r - lo0 r) / 96
def lo (r : Int) : Int := if r - lo0 r = 768 then lo0 r - 1 else lo0 r
theorem hi_bd (r : Int) (h0 : 0 ≤ r) (h1 : r < 769) : 0 ≤ hi r ∧ hi r ≤ 7 := by
  unfold hi lo0; omega
theorem lo_bd (r : Int) (h0 : 0 ≤ r) (h1 : r < 769) : -48 ≤ lo r ∧ lo r ≤ 48 := by
  unfold lo lo0; omega
theorem sum_mod (r : Int) (h0 : 0 ≤ r) (h1 : r < 769) : (96 * hi r + lo r + 1538 - r) % 769 = 0 := by
  unfold hi lo lo0; omega
theorem close (r d : Int) (h0 : 0 ≤ r) (h1 : r < 769) (hd0 : -2 ≤ d) (hd1 : d ≤ 2) (hl : lo r < 46) (hg : -46 < lo r) :
    hi ((r + d + 769) % 769) = hi r ∧ lo ((r + d + 769) % 769) = lo r + d := by
  have hq : (r + d + 769) % 769 = r + d + 769 ∧ r + d < 0 ∨ (r + d + 769) % 769 = r + d ∧ 0 ≤ r + d ∧ r + d < 769 ∨ (r + d + 769) % 769 = r + d - 769 ∧ 769 ≤ r + d := by omega
  generalize (r + d + 769) % 769 = q at hq
  rcases hq with ⟨rfl, h⟩ | ⟨rfl, h, h'⟩ | ⟨rfl, h⟩ <;> unfold hi lo at * <;> unfold lo0 at * <;> constructor <;> (repeat' split) <;> omega
end Go.Proofs.Ytbohgkegchmnaaa.PartedPlain
