/- The walk of the law Hashes. -/
import Derived.Test.YtbohgkegchmnaaaHashedWalk
namespace Go.Proofs.Ytbohgkegchmnaaa.hs
open Go.ChangeShapes Go.WideShapes Go.ChangeAt Go.RowKit Core cw nx sw bl rf rs sa hl kw ll lw bw hw

theorem dg_nil : dg (foldB fnv0 []) = [133, 112, 226, 80, 254, 76, 36, 115] := by decide +kernel
theorem str_nil : strOfNums (dg (foldB fnv0 [])) = ⟨#[133, 112, 226, 80, 254, 76, 36, 115]⟩ := by rw [dg_nil]; decide +kernel

theorem notin_of {w : World} {v : Value} {xs : List Int} {hb : Nat} (h : BytesAt w v xs) (hl : w.heap.size ≤ hb) : NotIn v hb := by
  intro b off n c e h0
  obtain ⟨_, ⟨rfl, a, cap, e', _⟩ | ⟨b', off', cap, e', hlt, _⟩⟩ := h
  · rw [e] at e'
    injection e' with _ e2 _
    omega
  · rw [e] at e'
    injection e' with e1 _ _
    injection e1 with e1
    injection e1 with e1 _ _
    omega
theorem hh0 (w : World) (base : Nat) (hb : base ≤ w.heap.size) : HH (w.alloc (.cells #[.slice none 0 0, .slice none 0 0, .slice none 0 0, .int .i64 0, .slice none 0 0, .slice none 0 0] 28)) w.heap.size base 0 0 := by
  refine ⟨fun k => if k = w.heap.size then 1 else 0, .slice none 0 0, .slice none 0 0, [], ⟨heap_alloc_new _ _, World.ownsRow_nil _ _ _ _, World.ownsRow_nil _ _ _ _, if_pos rfl, ?_, ?_, ?_⟩, ?_, ?_, rfl, ?_⟩
  · intro g hg; cases hg
  · intro g hg; cases hg
  · intro o ho; simp at ho
  · intro o ho; simp at ho
  · intro o ho; simp at ho
  · intro k hk
    exact if_neg (by omega)

set_option maxHeartbeats 1000000 in
theorem walk (a b : Value) (xs ys : List Int) (n m : Int) (w : World) (ha : BytesAt w a xs) (hb : BytesAt w b ys) (hxs : xs.length ≤ 140737488351232) (hys : ys.length ≤ 140737488351232) :
    Calls Try.prog 3 #[a, .int .i64 n, b, .int .i64 m] w fun e w' => e = .returned (.bool true) ∧ Below w.heap.size w w' := by
  go_enter Try.func3, Try.ntmps3
  go_wp2_with fail
  refine (digest_any _ [] _ (by simp) (BytesAt.nil _)).mono ?_
  rintro e w1 ⟨gd, hgd, rfl, hrd, hb1⟩
  have hv := conv_drewN (conv_bytes (row_bytes (cap := 8) hrd (dg_u8 _)))
  rw [str_nil, dg_length] at hv
  clear hrd
  go_wp2_with fail
  have hh := hh0 w1 w.heap.size hb1.size
  have hB1 : Below w.heap.size w (w1.alloc (.cells #[.slice none 0 0, .slice none 0 0, .slice none 0 0, .int .i64 0, .slice none 0 0, .slice none 0 0] 28)) := hb1.alloc hb1.size _
  have hsz : w.heap.size ≤ w1.heap.size := hb1.size
  generalize w1.alloc (.cells #[.slice none 0 0, .slice none 0 0, .slice none 0 0, .int .i64 0, .slice none 0 0, .slice none 0 0] 28) = w2 at *
  generalize w1.heap.size = hbk at *
  have na : NotIn a hbk := notin_of ha hsz
  have nb : NotIn b hbk := notin_of hb hsz
  clear hv hb1 hgd
  refine (hashed_any w2 hbk w.heap.size 0 0 a xs n hh (by omega) (by omega) (ha.below hB1) na hsz hxs).mono ?_
  rintro e w3 ⟨rfl, hh3, hb3⟩
  have hB3 := hB1.trans hb3
  go_wp2_with fail
  refine (hashed_any w3 hbk w.heap.size 2 8 b ys m hh3 (by omega) (by omega) (hb.below hB3) nb hsz hys).mono ?_
  rintro e w4 ⟨rfl, hh4, hb4⟩
  have hB4 := hB3.trans hb4
  go_wp2_with fail
  refine (hashed_any w4 hbk w.heap.size 4 16 a xs n hh4 (by omega) (by omega) (ha.below hB4) na hsz hxs).mono ?_
  rintro e w5 ⟨rfl, hh5, hb5⟩
  have hB5 := hB4.trans hb5
  go_wp2_with fail
  go_ret
  exact ⟨rfl, hB5⟩
end Go.Proofs.Ytbohgkegchmnaaa.hs
