/- The walks of digest.Of, Add, Sum, Stream. -/
import Derived.Test.YtbohgkegchmnaaaRows
import Derived.Test.YtbohgkegchmnaaaCore
import Derived.WalkLawsBesides
namespace Go.Proofs.Ytbohgkegchmnaaa.cw
open Go.ChangeShapes Go.WideShapes Go.ChangeAt Go.RowKit Core

theorem ret_int {k : IntKind} {a b : Int} (h : a = b) : Ending.returned (.int k a) = .returned (.int k b) := by rw [h]

set_option maxHeartbeats 400000 in
theorem add_some (s : Int) (b off cap : Nat) (xs : List Int) (w : World) (hm : xs.length ≤ 140737488355328)
    (hb : u8s xs) (hc : ∀ j, j < xs.length → w.cell? ⟨b, off + j, none⟩ = some (.int .u8 (xs[j]?.getD 0))) :
    Calls Try.prog 26 #[.int .u64 s, .slice (some ⟨b, off, none⟩) xs.length cap] w fun e w' => e = .returned (.int .u64 (foldB s xs)) ∧ w' = w := by
  generalize hlen : xs.length = len at *
  have Hlen : Hid (xs.length = len) := hlen
  clear hlen
  go_enter Try.func26, Try.ntmps26
  go_wp2
  go_loop [0, 9] (fun sv i => ∃ k : Nat, k ≤ len ∧ i = .int .i64 k ∧ sv = .int .u64 (foldB s (xs.take k))) (fun _ i => len - (intOf i).toNat)
  case atStart => exact ⟨0, Nat.zero_le _, rfl, rfl⟩
  case round =>
    obtain ⟨k, hk, rfl, rfl⟩ := hrel
    by_cases hlt : k < len
    · have hck := hc k hlt
      have hbk := getD_u8 hb k
      have hft : Hid (foldB s (xs.take (k + 1)) = mixF (foldB s (xs.take k)) (xs[k]?.getD 0)) := foldB_take s xs k (by rw [Hlen.out]; exact hlt)
      generalize xs[k]?.getD 0 = x at hck hbk hft
      generalize foldB s (xs.take k) = F at hft ⊢
      clear hc hb
      go_wp2
      go_round
      case rel => exact ⟨k + 1, by omega, by go_num, by rw [hft.out]; rfl⟩
      case measure => simp [intOf]; omega
    · clear hc hb
      go_wp2
      go_ret
      exact ⟨ret_int (by rw [List.take_of_length_le (by rw [Hlen.out]; omega)]), rfl⟩

set_option maxHeartbeats 400000 in
theorem add_nil (s : Int) (a : Option Addr) (cap : Nat) (w : World) :
    Calls Try.prog 26 #[.int .u64 s, .slice a 0 cap] w fun e w' => e = .returned (.int .u64 s) ∧ w' = w := by
  go_enter Try.func26, Try.ntmps26
  go_wp2
  refine wp_loop_rounds 1 ?_
  rw [rounds_succ]; go_wp2
  go_ret
  exact ⟨rfl, rfl⟩

theorem add_any (s : Int) (v : Value) (xs : List Int) (w : World) (hm : xs.length ≤ 140737488355328) (h : BytesAt w v xs) :
    Calls Try.prog 26 #[.int .u64 s, v] w fun e w' => e = .returned (.int .u64 (foldB s xs)) ∧ w' = w := by
  obtain ⟨hu, ⟨rfl, a, cap, rfl, _⟩ | ⟨b, off, cap, rfl, _, hc⟩⟩ := h
  · exact add_nil s a cap w
  · exact add_some s b off cap xs w hm hu hc

set_option maxHeartbeats 400000 in
theorem of_any (v : Value) (xs : List Int) (w : World) (hm : xs.length ≤ 140737488355328) (h : BytesAt w v xs) :
    Calls Try.prog 12 #[v] w fun e w' => e = .returned (.int .u64 (foldB fnv0 xs)) ∧ w' = w := by
  go_enter Try.func12, Try.ntmps12
  go_wp2_with fail
  refine (add_any _ v xs _ hm h).mono ?_
  rintro e w' ⟨rfl, rfl⟩
  go_wp2_with fail
  go_ret
  exact ⟨rfl, rfl⟩

def b8 (F : Int) : Array Value := #[.int .u8 (F / 72057594037927936), .int .u8 (F / 281474976710656 % 256), .int .u8 (F / 1099511627776 % 256), .int .u8 (F / 4294967296 % 256), .int .u8 (F / 16777216 % 256), .int .u8 (F / 65536 % 256), .int .u8 (F / 256 % 256), .int .u8 (F % 256)]

set_option maxHeartbeats 1000000 in
theorem sum_any (s : Int) (w : World) (hs : u64ok s) :
    Calls Try.prog 13 #[.int .u64 s] w fun e w' => e = .returned (.agg (b8 (finF s))) ∧ w' = (w.alloc (.cells (b8 (finF s)) 43)).alloc (.cells (b8 (finF s)) 43) := by
  have hfin : Hid (bits BinOp.xor IntKind.u64 (midF s) (midF s / 536870912) = finF s) := rfl
  have hF := fin_ok s
  obtain ⟨hs0, hs1⟩ := hs
  generalize finF s = F at *
  obtain ⟨hF0, hF1⟩ := hF
  have hmid : Hid (IntKind.u64.wrap (bits .xor .u64 s (s / 4294967296) * 11400714819323198485) = midF s) := rfl
  obtain ⟨hM0, hM1⟩ := mid_ok s
  generalize midF s = M at *
  go_enter Try.func13, Try.ntmps13
  go_wp2
  rw [hmid.out]
  generalize bits BinOp.xor IntKind.u64 s (s / 4294967296) = A
  rw [hfin.out]
  refine wp_loop_rounds 9 ?_
  rw [rounds_succ]; go_wp2
  rw [rounds_succ]; go_wp2
  rw [rounds_succ]; go_wp2
  rw [rounds_succ]; go_wp2
  rw [rounds_succ]; go_wp2
  rw [rounds_succ]; go_wp2
  rw [rounds_succ]; go_wp2
  rw [rounds_succ]; go_wp2
  rw [rounds_succ]; go_wp2
  exact bodyPost_ret (v := .agg (b8 F)) (by simp [results, Try.results13, go_sem, b8]) rfl ⟨rfl, rfl⟩

set_option maxHeartbeats 400000 in
theorem dstream_any (s : Int) (w : World) :
    Calls Try.prog 22 #[.int .u64 s] w fun e w' => e = .returned (.pointer (some ⟨w.heap.size, 0, none⟩)) ∧
      w' = w.alloc (.cells #[.int .u64 s, .int .u16 0, .int .u8 0, .int .u8 0, .int .u8 0, .int .u8 0, .int .u8 0, .int .u8 0, .int .u8 0, .int .u8 0, .int .i64 8] 65) := by
  go_enter Try.func22, Try.ntmps22
  go_wp2
  go_ret
  exact ⟨rfl, rfl⟩
end Go.Proofs.Ytbohgkegchmnaaa.cw
