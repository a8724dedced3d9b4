/- signet.Stream and the document's Stream, at every number. -/
import Derived.Test.YtbohgkegchmnaaaStreamWalk
import Derived.Test.YtbohgkegchmnaaaRefStream
namespace Go.Proofs.Ytbohgkegchmnaaa.sa
open Go.ChangeShapes Go.WideShapes Go.ChangeAt Go.RowKit Core cw nx sw bl rf rs

/-- What Stream tells. -/
def told (S n : Int) : List Int := if 0 ≤ n ∧ n ≤ 1000 then strm S n.toNat else []
def toldE (n : Int) : Int := if 0 ≤ n ∧ n ≤ 1000 then 0 else 3
theorem told_len (S n : Int) : (told S n).length ≤ 1000 := by
  unfold told; split
  · rw [strm_length]; omega
  · simp
theorem told_u8 (S n : Int) : u8s (told S n) := by
  unfold told; split
  · exact strm_u8 _ _
  · intro x hx; simp at hx

theorem stream_all (v : Value) (xs : List Int) (n : Int) (w : World) (hm : xs.length ≤ 140737488351232) (h : BytesAt w v xs) :
    Calls Try.prog 10 #[v, .int .i64 n] w fun e w' => ∃ ao g, e = .returned (.tuple #[.slice ao (told (foldB fnv0 xs) n).length (told (foldB fnv0 xs) n).length, .int .i64 (toldE n)]) ∧ (ao = none → (told (foldB fnv0 xs) n).length = 0) ∧
      (∀ a, ao = some a → a = ⟨g, 0, none⟩ ∧ w.heap.size ≤ g ∧ w'.heap[g]? = some (.cells (vs (told (foldB fnv0 xs) n)) 5 (0, 0))) ∧ Below w.heap.size w w' := by
  by_cases hn : 0 ≤ n ∧ n ≤ 1000
  · obtain ⟨k, rfl⟩ := Int.eq_ofNat_of_zero_le hn.1
    have e1 : told (foldB fnv0 xs) (k : Int) = strm (foldB fnv0 xs) k := by unfold told; rw [if_pos hn, Int.toNat_natCast]
    have e2 : toldE (k : Int) = 0 := if_pos hn
    rw [e1, e2]
    refine (stream_any v xs k w (by omega) (by omega) h).mono ?_
    rintro e w' ⟨g, hg, rfl, hr, hb⟩
    refine ⟨some ⟨g, 0, none⟩, g, by rw [strm_length], (by intro h; cases h), ?_, hb⟩
    intro a ha
    cases ha
    exact ⟨rfl, hg, hr⟩
  · have e1 : told (foldB fnv0 xs) n = [] := if_neg hn
    have e2 : toldE n = 3 := if_neg hn
    rw [e1, e2]
    refine (stream_bad v n w (by omega)).mono ?_
    rintro e w' ⟨rfl, rfl⟩
    exact ⟨none, 0, rfl, fun _ => rfl, (by intro a ha; cases ha), Below.refl _ _⟩

theorem rStream_all (v : Value) (xs : List Int) (n : Int) (w : World) (hm : xs.length ≤ 140737488351232) (h : BytesAt w v xs) :
    Calls Try.prog 16 #[v, .int .i64 n] w fun e w' => ∃ a cap, e = .returned (.tuple #[.slice a (told (foldB fnv0 xs) n).length cap, .int .i64 (toldE n)]) ∧ BytesAt w' (.slice a (told (foldB fnv0 xs) n).length cap) (told (foldB fnv0 xs) n) ∧ Below w.heap.size w w' := by
  by_cases hn : 0 ≤ n ∧ n ≤ 1000
  · obtain ⟨k, rfl⟩ := Int.eq_ofNat_of_zero_le hn.1
    have e1 : told (foldB fnv0 xs) (k : Int) = strm (foldB fnv0 xs) k := by unfold told; rw [if_pos hn, Int.toNat_natCast]
    have e2 : toldE (k : Int) = 0 := if_pos hn
    rw [e1, e2, strm_length]
    exact rStream_any v xs k w (by omega) hm h
  · have e1 : told (foldB fnv0 xs) n = [] := if_neg hn
    have e2 : toldE n = 3 := if_neg hn
    rw [e1, e2]
    refine (rStream_bad v n w (by omega)).mono ?_
    rintro e w' ⟨rfl, rfl⟩
    exact ⟨none, 0, rfl, BytesAt.nil _, Below.refl _ _⟩
end Go.Proofs.Ytbohgkegchmnaaa.sa
