/- The walks of the document's answer: Digest, joined, stream, Stream. -/
import Derived.Test.YtbohgkegchmnaaaBytesLaw
namespace Go.Proofs.Ytbohgkegchmnaaa.rf
open Go.ChangeShapes Go.WideShapes Go.ChangeAt Go.RowKit Core cw bl

theorem mk8lit (w : World) : (Instr.makeSlice 22 (.int .i64 8) (.int .i64 8)).run Try.prog w = .ok (.slice (some ⟨w.heap.size, 0, none⟩) 8 8) (w.alloc (.cells #[.int .u8 0, .int .u8 0, .int .u8 0, .int .u8 0, .int .u8 0, .int .u8 0, .int .u8 0, .int .u8 0] 5)) := by kernel_rfl

theorem by8_alt (F : Int) : #[Value.int .u8 (F / 256 / 256 / 256 / 256 / 256 / 256 / 256), Value.int .u8 (F / 256 / 256 / 256 / 256 / 256 / 256 % 256), Value.int .u8 (F / 256 / 256 / 256 / 256 / 256 % 256),
    Value.int .u8 (F / 256 / 256 / 256 / 256 % 256), Value.int .u8 (F / 256 / 256 / 256 % 256), Value.int .u8 (F / 256 / 256 % 256), Value.int .u8 (F / 256 % 256), Value.int .u8 (F % 256)] = vs (by8 F) := by
  have e7 : F / 256 / 256 / 256 / 256 / 256 / 256 / 256 = F / 72057594037927936 := by omega
  have e6 : F / 256 / 256 / 256 / 256 / 256 / 256 = F / 281474976710656 := by omega
  have e5 : F / 256 / 256 / 256 / 256 / 256 = F / 1099511627776 := by omega
  have e4 : F / 256 / 256 / 256 / 256 = F / 4294967296 := by omega
  have e3 : F / 256 / 256 / 256 = F / 16777216 := by omega
  have e2 : F / 256 / 256 = F / 65536 := by omega
  rw [e7, e6, e5, e4, e3, e2]
  rfl

set_option maxHeartbeats 1000000 in
theorem rdigest_some (ao : Option Addr) (b off cap : Nat) (xs : List Int) (w : World) (hm : xs.length ≤ 140737488355328)
    (hb : u8s xs) (hao : 0 < xs.length → ao = some ⟨b, off, none⟩) (hc : ∀ j, j < xs.length → w.cell? ⟨b, off + j, none⟩ = some (.int .u8 (xs[j]?.getD 0))) :
    Calls Try.prog 17 #[.slice ao xs.length cap] w fun e w' => ∃ g, w.heap.size ≤ g ∧ e = .returned (.slice (some ⟨g, 0, none⟩) 8 8) ∧ w'.heap[g]? = some (.cells (vs (dg (foldB fnv0 xs))) 5 (0, 0)) ∧ Below w.heap.size w w' := by
  have hmk := mk8lit
  generalize hlen : xs.length = len at *
  have Hlen : Hid (xs.length = len) := hlen
  clear hlen
  go_enter Try.func17, Try.ntmps17
  go_wp2
  go_loop [3, 4] (fun sv i => ∃ k : Nat, k ≤ len ∧ i = .int .i64 k ∧ sv = .int .u64 (foldB fnv0 (xs.take k))) (fun _ i => len - (intOf i).toNat)
  case atStart => exact ⟨0, Nat.zero_le _, rfl, rfl⟩
  case round =>
    obtain ⟨k, hk, rfl, rfl⟩ := hrel
    by_cases hlt : k < len
    · obtain rfl := hao (by omega)
      have hck := hc k hlt
      have hbk := getD_u8 hb k
      have hft : Hid (foldB fnv0 (xs.take (k + 1)) = mixF (foldB fnv0 (xs.take k)) (xs[k]?.getD 0)) := foldB_take fnv0 xs k (by rw [Hlen.out]; exact hlt)
      generalize xs[k]?.getD 0 = x at hck hbk hft
      generalize foldB fnv0 (xs.take k) = F at hft ⊢
      clear hc hb hao
      go_wp2
      go_round
      case rel => exact ⟨k + 1, by omega, by go_num, by rw [hft.out]; rfl⟩
      case measure => simp [intOf]; omega
    · clear hc hb hao
      have hx : Hid (foldB fnv0 (xs.take k) = foldB fnv0 xs) := by show _ = _; rw [List.take_of_length_le (by rw [Hlen.out]; omega)]
      have hok := fold_ok (xs.take k) _ fnv0_ok
      generalize foldB fnv0 (xs.take k) = s at *
      have hfin : Hid (bits BinOp.xor IntKind.u64 (midF s) (midF s / 536870912) = finF s) := rfl
      obtain ⟨hF0, hF1⟩ := fin_ok s
      have Hdg : Hid (dg s = by8 (finF s)) := rfl
      obtain ⟨hs0, hs1⟩ := hok
      generalize finF s = F at *
      have hmid : Hid (IntKind.u64.wrap (bits .xor .u64 s (s / 4294967296) * 11400714819323198485) = midF s) := rfl
      obtain ⟨hM0, hM1⟩ := mid_ok s
      generalize midF s = M at *
      go_wp2
      rw [hmid.out]
      generalize bits BinOp.xor IntKind.u64 s (s / 4294967296) = A
      rw [hfin.out]
      refine wp_loop_rounds 9 ?_
      rw [rounds_succ]; go_wp2
      rw [rounds_succ]; go_wp2
      rw [rounds_succ]; go_wp2
      rw [rounds_succ]; go_wp2
      rw [rounds_succ]; go_wp2
      rw [rounds_succ]; go_wp2
      rw [rounds_succ]; go_wp2
      rw [rounds_succ]; go_wp2
      rw [rounds_succ]; go_wp2
      go_ret
      refine ⟨w.heap.size, Nat.le_refl _, rfl, ?_, (Below.refl _ _).alloc (Nat.le_refl _) _⟩
      rw [← hx.out, Hdg.out, by8_alt]
      exact heap_alloc_new _ _
theorem rdigest_any (v : Value) (xs : List Int) (w : World) (hm : xs.length ≤ 140737488355328) (h : BytesAt w v xs) :
    Calls Try.prog 17 #[v] w fun e w' => ∃ g, w.heap.size ≤ g ∧ e = .returned (.slice (some ⟨g, 0, none⟩) 8 8) ∧ w'.heap[g]? = some (.cells (vs (dg (foldB fnv0 xs))) 5 (0, 0)) ∧ Below w.heap.size w w' := by
  obtain ⟨hu, ⟨rfl, a, cap, rfl, _⟩ | ⟨b, off, cap, rfl, _, hc⟩⟩ := h
  · exact rdigest_some a 0 0 cap [] w hm hu (by intro h; simp at h) (by intro j h; simp at h)
  · exact rdigest_some _ b off cap xs w hm hu (fun _ => rfl) hc

/-- The cells of a list of lists of bytes. -/
structure Lists (w : World) (b : Nat) (us : List Value) (xss : List (List Int)) : Prop where
  len : us.length = xss.length
  cell : ∀ j, j < us.length → w.cell? ⟨b, j, none⟩ = some (us[j]?.getD .nilIface)
  bytes : ∀ j, j < us.length → BytesAt w (us[j]?.getD .nilIface) (xss[j]?.getD [])
  lt : b < w.heap.size
theorem flat_take (xss : List (List Int)) (k : Nat) (h : k < xss.length) : (xss.take (k + 1)).flatten = (xss.take k).flatten ++ xss[k]?.getD [] := by
  rw [List.take_succ_eq_append_getElem h, List.flatten_append, List.getElem?_eq_getElem h]
  simp
theorem flat_len (xss : List (List Int)) (k : Nat) : (xss.take k).flatten.length ≤ xss.flatten.length := by
  conv => rhs; rw [← List.take_append_drop k xss, List.flatten_append, List.length_append]
  omega

set_option maxHeartbeats 1000000 in
theorem joined_any (b n : Nat) (us : List Value) (xss : List (List Int)) (w : World) (hn : us.length = n) (hn2 : n ≤ 1000) (h : Lists w b us xss) (hm : xss.flatten.length ≤ 140737488355328) :
    Calls Try.prog 31 #[.slice (some ⟨b, 0, none⟩) n n] w fun e w' => ∃ v, e = .returned v ∧ OwnB w' w.heap.size v xss.flatten ∧ Below w.heap.size w w' := by
  go_enter Try.func31, Try.ntmps31
  go_wp2_with fail
  go_loopw [3, 4] (fun ov iv wr => ∃ (k : Nat) (o : Value), k ≤ n ∧ iv = .int .i64 k ∧ o = ov ∧ OwnB wr w.heap.size o (xss.take k).flatten ∧ Below w.heap.size w wr) (fun _ iv _ => n - (intOf iv).toNat)
  case atStart => exact ⟨0, _, Nat.zero_le _, rfl, rfl, OwnB.nil _ _, Below.refl _ _⟩
  case round =>
    obtain ⟨k, o, hk, rfl, rfl, hown, hbw⟩ := hrel
    by_cases hlt : k < n
    · have hlt2 : (k : Int) < (n : Int) := by omega
      have hc := (hbw.cell (p := ⟨b, k, none⟩) h.lt).trans (h.cell k (by omega))
      have hB := (h.bytes k (by omega)).below hbw
      have hfl : Hid (_ = _) := flat_take xss k (by rw [← h.len]; omega)
      have hfk := flat_len xss (k + 1)
      rw [hfl.out, List.length_append] at hfk
      generalize us[k]?.getD .nilIface = u at *
      generalize xss[k]?.getD [] = ys at *
      go_wp2_with (at_builtin; refine appendB rfl (.tmp 11) (.tmp 15) rfl w.heap.size o u _ ys rfl hown rfl hB (by omega) hbw.size ?_; intro v1 w1 own1 grow1)
      have hb1 : Below w.heap.size w w1 := hbw.grown grow1 hbw.size (fun q hq => (World.ownsRow.lt hown q hq).1)
      rw [← hfl.out] at own1
      clear hown grow1 hbw hc hB
      go_wp2_with fail
      go_roundw
      case rel => exact ⟨k + 1, _, by omega, by go_num, rfl, own1, hb1⟩
      case measure => simp [intOf]; omega
    · have hlt2 : ¬ (k : Int) < (n : Int) := by omega
      have hx : Hid (_ = _) := List.take_of_length_le (l := xss) (i := k) (by rw [← h.len]; omega)
      rw [hx.out] at hown
      go_wp2_with fail
      go_ret
      exact ⟨_, rfl, hown, hbw⟩
end Go.Proofs.Ytbohgkegchmnaaa.rf
