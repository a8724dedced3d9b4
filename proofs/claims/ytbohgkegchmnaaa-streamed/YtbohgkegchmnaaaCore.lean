/- The digest and the stream as plain functions on numbers; bytes that lie in memory; what a call may have turned. -/
import Derived.WalkKit
import Derived.ProofKit
import Derived.OpenShut
import Derived.Laws.Bits64
import Derived.Laws.BitsAllLaws
import Derived.Deep.QuietTactic
import Derived.BigQuiet
namespace Go.Proofs.Ytbohgkegchmnaaa
open Go.RowKit

namespace Core

def mixF (h x : Int) : Int := IntKind.u64.wrap (bits .xor .u64 h x * 1099511628211)
def foldB (h : Int) (xs : List Int) : Int := xs.foldl mixF h
def midF (s : Int) : Int := IntKind.u64.wrap (bits .xor .u64 s (s / 4294967296) * 11400714819323198485)
def finF (s : Int) : Int := bits .xor .u64 (midF s) (midF s / 536870912)
def by8 (F : Int) : List Int := [F / 72057594037927936, F / 281474976710656 % 256, F / 1099511627776 % 256, F / 4294967296 % 256, F / 16777216 % 256, F / 65536 % 256, F / 256 % 256, F % 256]
def dg (s : Int) : List Int := by8 (finF s)
def fnv0 : Int := 14695981039346656037
def u64ok (s : Int) : Prop := 0 ≤ s ∧ s < 18446744073709551616
def u8s (xs : List Int) : Prop := ∀ x ∈ xs, 0 ≤ x ∧ x ≤ 255

theorem wrap_ok (n : Int) : u64ok (IntKind.u64.wrap n) := by
  unfold u64ok
  have h := bounds_u64 (wf_wrap .u64 n)
  omega
theorem mix_ok (h x : Int) : u64ok (mixF h x) := wrap_ok _
theorem mid_ok (s : Int) : u64ok (midF s) := wrap_ok _
theorem fold_ok (xs : List Int) : ∀ s, u64ok s → u64ok (foldB s xs) := by
  induction xs with
  | nil => intro s h; exact h
  | cons x r ih => intro s _; exact ih _ (mix_ok s x)
theorem fnv0_ok : u64ok fnv0 := by unfold u64ok fnv0; omega
theorem fin_ok (s : Int) : u64ok (finF s) := by
  unfold finF
  have h := mid_ok s
  unfold u64ok at *
  rw [u64_xor _ _ h.1 h.2 (by omega) (by omega)]
  have := Nat.xor_lt_two_pow (n := 64) (x := (midF s).toNat) (y := (midF s / 536870912).toNat) (by omega) (by omega)
  omega
theorem dg_u8 (s : Int) : u8s (dg s) := by
  have h := fin_ok s
  unfold u64ok at h
  unfold dg by8 u8s
  intro x hx
  simp only [List.mem_cons, List.not_mem_nil, or_false] at hx
  rcases hx with rfl | rfl | rfl | rfl | rfl | rfl | rfl | rfl <;> omega
theorem dg_length (s : Int) : (dg s).length = 8 := rfl
theorem foldB_nil (s : Int) : foldB s [] = s := rfl
theorem foldB_append (s : Int) (xs ys : List Int) : foldB s (xs ++ ys) = foldB (foldB s xs) ys := List.foldl_append
theorem foldB_take (s : Int) (xs : List Int) (k : Nat) (h : k < xs.length) : foldB s (xs.take (k + 1)) = mixF (foldB s (xs.take k)) (xs[k]?.getD 0) := by
  rw [List.take_succ_eq_append_getElem h, foldB_append]
  show mixF _ _ = _
  rw [List.getElem?_eq_getElem h]; rfl

/-- The block of that number of a stream, and its bytes. -/
def blk (s : Int) (n : Nat) : List Int := dg (foldB s [((n : Int) / 256) % 256, (n : Int) % 256])
def sb (s : Int) (i : Nat) : Int := (blk s (i / 8 % 65536))[i % 8]?.getD 0
def strm (s : Int) (n : Nat) : List Int := (List.range n).map (sb s)
theorem strm_length (s : Int) (n : Nat) : (strm s n).length = n := by simp [strm]
theorem blk_length (s : Int) (n : Nat) : (blk s n).length = 8 := rfl
theorem getD_u8 {xs : List Int} (h : u8s xs) (i : Nat) : 0 ≤ xs[i]?.getD 0 ∧ xs[i]?.getD 0 ≤ 255 := by
  by_cases hi : i < xs.length
  · rw [List.getElem?_eq_getElem hi]; exact h _ (List.getElem_mem hi)
  · rw [List.getElem?_eq_none (by omega)]; simp
theorem sb_bd (s : Int) (i : Nat) : 0 ≤ sb s i ∧ sb s i ≤ 255 := getD_u8 (dg_u8 _) _
theorem strm_u8 (s : Int) (n : Nat) : u8s (strm s n) := by
  intro x hx
  simp only [strm, List.mem_map] at hx
  obtain ⟨i, _, rfl⟩ := hx
  exact sb_bd s i
theorem strm_get (s : Int) (n i : Nat) (h : i < n) : (strm s n)[i]?.getD 0 = sb s i := by
  simp [strm, h]

/-- What may have been turned: the blocks of S, and new ones. -/
structure But (S : Nat → Prop) (w w' : World) : Prop where
  os : w'.os = w.os
  tape : w'.tape = w.tape
  output : w'.output = w.output
  size : w.heap.size ≤ w'.heap.size
  block : ∀ k, k < w.heap.size → ¬ S k → w'.heap[k]? = w.heap[k]?

theorem But.refl (S : Nat → Prop) (w : World) : But S w w := ⟨rfl, rfl, rfl, Nat.le_refl _, fun _ _ _ => rfl⟩
theorem But.trans {S : Nat → Prop} {a b c : World} (h : But S a b) (k : But S b c) : But S a c :=
  ⟨k.os.trans h.os, k.tape.trans h.tape, k.output.trans h.output, Nat.le_trans h.size k.size, fun i hi hs => (k.block i (Nat.lt_of_lt_of_le hi h.size) hs).trans (h.block i hi hs)⟩
/-- What the second step may turn is new since the first world, or of S. -/
theorem But.then {S R : Nat → Prop} {a b c : World} (h : But S a b) (k : But R b c) (hr : ∀ i, i < a.heap.size → R i → S i) : But S a c :=
  ⟨k.os.trans h.os, k.tape.trans h.tape, k.output.trans h.output, Nat.le_trans h.size k.size, fun i hi hs => (k.block i (Nat.lt_of_lt_of_le hi h.size) (fun r => hs (hr i hi r))).trans (h.block i hi hs)⟩
theorem But.mono {S R : Nat → Prop} {a b : World} (h : But S a b) (hr : ∀ i, i < a.heap.size → S i → R i) : But R a b :=
  ⟨h.os, h.tape, h.output, h.size, fun i hi hs => h.block i hi (fun r => hs (hr i hi r))⟩
theorem But.of_below {w w' : World} (S : Nat → Prop) (h : Below w.heap.size w w') : But S w w' := ⟨h.os, h.tape, h.output, h.size, fun k hk _ => h.block k hk⟩
theorem But.below {S : Nat → Prop} {w w' : World} {B : Nat} (h : But S w w') (hB : B ≤ w.heap.size) (hs : ∀ k, k < B → ¬ S k) : Below B w w' := ⟨h.os, h.tape, h.output, h.size, fun k hk => h.block k (by omega) (hs k hk)⟩
theorem But.drew {S : Nat → Prop} {a w : World} (h : But S a w) : But S a w.drew := ⟨h.os, h.tape, h.output, h.size, h.block⟩
theorem But.drewN {S : Nat → Prop} {a w : World} (h : But S a w) (n : Nat) : But S a (w.drewN n) := ⟨h.os, h.tape, h.output, h.size, h.block⟩
theorem But.alloc {S : Nat → Prop} {a w : World} (h : But S a w) (o : Obj) : But S a (w.alloc o) :=
  h.trans ⟨rfl, rfl, rfl, by simp, fun k hk _ => Below.heap_alloc _ _ _ hk⟩
theorem But.setCell {S : Nat → Prop} {a w : World} (h : But S a w) {p : Addr} (hp : S p.block ∨ a.heap.size ≤ p.block) (u : Value) : But S a (w.setCell p u) :=
  ⟨h.os, h.tape, h.output, by have := h.size; simp [World.setCell]; omega, fun k hk hs => by
    rw [Below.heap_setCell _ _ _ _ (by intro e; subst e; rcases hp with hp | hp; exact hs hp; omega)]; exact h.block k hk hs⟩
theorem But.cell {S : Nat → Prop} {w w' : World} (h : But S w w') {p : Addr} (hp : p.block < w.heap.size) (hs : ¬ S p.block) : w'.cell? p = w.cell? p := World.cell?_of_block (w := w) (h.block p.block hp hs)
theorem But.frozen {S : Nat → Prop} {w w' : World} (h : But S w w') {p : Addr} (hp : p.block < w.heap.size) (hs : ¬ S p.block) : w'.frozen? p = w.frozen? p := World.frozen?_of_block (w := w) (h.block p.block hp hs)

/-- The slice v holds the bytes xs. -/
def BytesAt (w : World) (v : Value) (xs : List Int) : Prop :=
  u8s xs ∧ ((xs = [] ∧ ∃ a cap, v = .slice a 0 cap ∧ (a = none → cap = 0)) ∨
    ∃ b off cap, v = .slice (some ⟨b, off, none⟩) xs.length cap ∧ b < w.heap.size ∧ ∀ j, j < xs.length → w.cell? ⟨b, off + j, none⟩ = some (.int .u8 (xs[j]?.getD 0)))
theorem BytesAt.kept {S : Nat → Prop} {w w' : World} {v : Value} {xs : List Int} (h : BytesAt w v xs) (hb : But S w w') (hs : ∀ b off n c, v = .slice (some ⟨b, off, none⟩) n c → ¬ S b) : BytesAt w' v xs := by
  refine ⟨h.1, ?_⟩
  rcases h.2 with h | ⟨b, off, cap, rfl, hlt, hc⟩
  · exact .inl h
  · exact .inr ⟨b, off, cap, rfl, Nat.lt_of_lt_of_le hlt hb.size, fun j hj => (hb.cell (p := ⟨b, off + j, none⟩) hlt (hs b off _ _ rfl)).trans (hc j hj)⟩
theorem BytesAt.below {w w' : World} {v : Value} {xs : List Int} (h : BytesAt w v xs) (hb : Below w.heap.size w w') : BytesAt w' v xs :=
  h.kept (But.of_below (fun _ => False) hb) (fun _ _ _ _ _ => id)
theorem BytesAt.alloc {w : World} {v : Value} {xs : List Int} (h : BytesAt w v xs) (o : Obj) : BytesAt (w.alloc o) v xs :=
  h.kept ((But.refl (fun _ => False) w).alloc o) (fun _ _ _ _ _ => id)
theorem BytesAt.drew {w : World} {v : Value} {xs : List Int} (h : BytesAt w v xs) : BytesAt w.drew v xs := h
theorem BytesAt.nil (w : World) : BytesAt w (.slice none 0 0) [] := ⟨by intro x hx; simp at hx, .inl ⟨rfl, none, 0, rfl, fun _ => rfl⟩⟩

/-- Bytes as cells. -/
def vs (xs : List Int) : Array Value := (xs.map (Value.int .u8)).toArray
theorem vs_size (xs : List Int) : (vs xs).size = xs.length := by simp [vs]
theorem vs_get (xs : List Int) (j : Nat) (h : j < xs.length) : (vs xs)[j]? = some (.int .u8 (xs[j]?.getD 0)) := by
  simp [vs, h]
theorem vs_set (xs ys : List Int) (x y : Int) : (vs (xs ++ x :: ys)).setIfInBounds xs.length (.int .u8 y) = vs (xs ++ y :: ys) := by
  apply Array.ext'
  simp [vs]
theorem lt_of_row {w : World} {g : Nat} {o : Obj} (h : w.heap[g]? = some o) : g < w.heap.size := by
  rcases Nat.lt_or_ge g w.heap.size with h' | h'
  · exact h'
  · rw [Array.getElem?_eq_none h'] at h; cases h
theorem row_bytes {w : World} {g cap : Nat} {t : TypeId} {fr : Nat × Nat} {xs : List Int} (h : w.heap[g]? = some (.cells (vs xs) t fr)) (hu : u8s xs) : BytesAt w (.slice (some ⟨g, 0, none⟩) xs.length cap) xs := by
  refine ⟨hu, .inr ⟨g, 0, cap, rfl, lt_of_row h, fun j hj => ?_⟩⟩
  rw [cell_of_row w g _ _ _ _ h, Nat.zero_add, vs_get xs j hj]
theorem made_vs (n : Nat) : madeCells #[.int .u8 0] n = vs (List.replicate n 0) := by
  apply Array.ext'
  rw [toList_madeCells_one]; simp [vs]
theorem u8s_replicate (n : Nat) : u8s (List.replicate n 0) := by
  intro x hx
  rw [List.mem_replicate] at hx
  omega
theorem u8s_append {xs ys : List Int} (h : u8s xs) (k : u8s ys) : u8s (xs ++ ys) := by
  intro x hx
  rcases List.mem_append.1 hx with hx | hx
  · exact h x hx
  · exact k x hx

theorem BytesAt.shape {w : World} {v : Value} {xs : List Int} (h : BytesAt w v xs) : ∃ a cap, v = .slice a xs.length cap := by
  obtain ⟨_, ⟨rfl, a, cap, rfl, _⟩ | ⟨b, off, cap, rfl, _, _⟩⟩ := h
  · exact ⟨a, cap, rfl⟩
  · exact ⟨_, cap, rfl⟩

end Core
end Go.Proofs.Ytbohgkegchmnaaa
