/- Bytes in memory: conversions, appends. -/
import Derived.Test.YtbohgkegchmnaaaCoreWalks
import Derived.Laws.AppendOwnNone
namespace Go.Proofs.Ytbohgkegchmnaaa.bl
open Go.ChangeShapes Go.WideShapes Go.ChangeAt Go.RowKit Core cw

def nums (s : ByteArray) : List Int := s.data.toList.map (fun b => (b.toNat : Int))
theorem nums_u8 (s : ByteArray) : u8s (nums s) := by
  intro x hx
  simp only [nums, List.mem_map] at hx
  obtain ⟨b, _, rfl⟩ := hx
  have := b.toNat_lt
  omega
theorem nums_length (s : ByteArray) : (nums s).length = s.size := by unfold nums; rw [List.length_map]; rfl

theorem cv (s : ByteArray) (w : World) : ∃ cap C fr, (convert 9 22 (.string s)).run Try.prog w = .ok (.slice (some ⟨w.heap.size, 0, none⟩) s.size cap) (w.alloc (.cells C 5 fr)).drew ∧
    BytesAt (w.alloc (.cells C 5 fr)) (.slice (some ⟨w.heap.size, 0, none⟩) s.size cap) (nums s) := by
  refine ⟨grownCap w s.size 0 5, _, _, run_bytes_of_string (P := Try.prog) w 9 22 5 s Try.underlying9 Try.underlying22 Try.underlying5, nums_u8 s, .inr ⟨w.heap.size, 0, grownCap w s.size 0 5, ?_, by simp, ?_⟩⟩
  · rw [nums_length]
  · intro j hj
    rw [nums_length] at hj
    have hj' : j < s.data.size := hj
    rw [World.cell?_alloc_mark, Nat.zero_add, bytesRow_at s _ j hj']
    simp only [nums, List.getElem?_map, Array.getElem?_toList]
    rw [Array.getElem?_eq_getElem hj']
    rfl

theorem conv_at {w : World} {b off cap : Nat} {xs : List Int} (h : ∀ j, j < xs.length → w.cell? ⟨b, off + j, none⟩ = some (.int .u8 (xs[j]?.getD 0))) :
    ∀ nq, (convert 22 9 (.slice (some ⟨b, off, none⟩) xs.length cap)).run Try.prog (w.drewN nq) = .ok (.string (strOfNums xs)) (w.drewN nq) := by
  intro nq
  refine run_convert_bytes_arg (P := Try.prog) (w.drewN nq) 22 5 Try.underlying22 Try.underlying5 b off xs.length cap xs rfl ?_ 9 Try.underlying9
  intro i hi
  rw [List.getD_eq_getElem?_getD]
  exact h i hi
theorem conv_drewN {w : World} {v u : Value} (h : ∀ nq, (convert 22 9 v).run Try.prog (w.drewN nq) = .ok u (w.drewN nq)) : (convert 22 9 v).run Try.prog w = .ok u w := h 0

theorem info8 : (Try.prog.info? 5).map (fun i => (i.zero, i.size, i.bytes)) = some (some (.int .u8 0), 1, 1) := by kernel_rfl
/-- The slice v, of the call's own (blocks from base on), holds the bytes xs. -/
def OwnB (w : World) (base : Nat) (v : Value) (xs : List Int) : Prop := w.ownsRow base 5 1 v xs.length (xs.map (Value.int .u8))
theorem addr_plain (b off j : Nat) : (⟨b, off, none⟩ : Addr).add j = ⟨b, off + j, none⟩ := by unfold Addr.add; split <;> simp_all
theorem OwnB.nil (w : World) (base : Nat) : OwnB w base (.slice none 0 0) [] := World.ownsRow_nil w base 5 1
theorem OwnB.bytes {w : World} {base : Nat} {v : Value} {xs : List Int} (h : OwnB w base v xs) (hu : u8s xs) : BytesAt w v xs := by
  refine ⟨hu, ?_⟩
  rcases h.2 with ⟨rfl, h0⟩ | ⟨g, cap, cur, rfl, hg, hh, h1, h2, h3, h4⟩
  · exact .inl ⟨List.length_eq_zero_iff.1 h0, none, 0, rfl, fun _ => rfl⟩
  · refine .inr ⟨g, 0, cap, rfl, lt_of_row hh, fun j hj => ?_⟩
    rw [cell_of_row w g _ _ _ _ hh, Nat.zero_add]
    have h5 : (cur.toList.take (xs.length * 1))[j]? = (xs.map (Value.int .u8))[j]? := by rw [h4]
    rw [Nat.mul_one, List.getElem?_take_of_lt hj, Array.getElem?_toList] at h5
    rw [h5]
    simp [hj]
theorem OwnB.alloc {w : World} {base : Nat} {v : Value} {xs : List Int} (h : OwnB w base v xs) (o : Obj) : OwnB (w.alloc o) base v xs := World.ownsRow.alloc h o

theorem two_bytes (w : World) (x y : Int) (hx : 0 ≤ x ∧ x ≤ 255) (hy : 0 ≤ y ∧ y ≤ 255) : BytesAt (w.alloc (.cells #[.int .u8 x, .int .u8 y] 5)) (.slice (some ⟨w.heap.size, 0, none⟩) 2 2) [x, y] := by
  have h : (w.alloc (.cells #[.int .u8 x, .int .u8 y] 5)).heap[w.heap.size]? = some (.cells (vs [x, y]) 5 (0, 0)) := heap_alloc_new _ _
  refine row_bytes h ?_
  intro z hz
  simp at hz
  rcases hz with rfl | rfl <;> assumption

theorem two_u8 {x y : Int} (hx : 0 ≤ x ∧ x ≤ 255) (hy : 0 ≤ y ∧ y ≤ 255) : u8s [x, y] := by
  intro z hz
  simp at hz
  rcases hz with rfl | rfl <;> assumption
theorem sb_block (S : Int) (i t : Nat) (hi : i ≤ 1000) (ht : t < 8) : sb S (8 * i + t) = (dg (foldB S [(i : Int) / 256, (i : Int) % 256]))[t]?.getD 0 := by
  unfold sb blk
  rw [show (8 * i + t) / 8 % 65536 = i by omega, show (8 * i + t) % 8 = t by omega, show ((i : Int) / 256) % 256 = (i : Int) / 256 by omega]

/-- append(v, u...) of bytes, v of the call's own. -/
theorem appendB {w : World} {ops : Array Oper} {rest : List Oper} {o : Oper} {a : Act} {Q : Exit → Act → World → Prop} (hgd : o.guard = none) (s x : Operand)
    (ho : o.op = .call { callee := .builtin .append, args := #[s, x], argTypes := #[22, 22] })
    (base : Nat) (v u : Value) (xs ys : List Int) (hs : a.eval s = v) (hown : OwnB w base v xs) (hx : a.eval x = u) (hu : BytesAt w u ys)
    (hb : xs.length + ys.length ≤ 140737488355328) (hbase : base ≤ w.heap.size)
    (h : ∀ v' w', OwnB w' base v' (xs ++ ys) → w.grownBy w' v.ownBlock → wpList Try.prog ops Q rest (a.put o.dst v') w') : wpList Try.prog ops Q (o :: rest) a w := by
  obtain ⟨i0, hi, hz0, hz1, hz2⟩ := info_parts info8
  obtain ⟨_, ⟨rfl, ad, cap, rfl, hn⟩ | ⟨b, off, cap, rfl, _, hc⟩⟩ := hu
  · cases ad with
    | none =>
      rw [hn rfl] at hx
      refine wpList_append_own_none hgd s x 22 ho base 5 i0 1 Try.underlying22 hi v xs.length _ hs hown hx ?_
      refine h v w (by rw [List.append_nil]; exact hown) ⟨rfl, rfl, rfl, Nat.le_refl _, fun _ _ _ => rfl⟩
    | some ad =>
      refine wpList_append_own w hgd s x 22 ho base 5 i0 (.int .u8 0) 1 1 Try.underlying22 hi hz0 hz1 hz2 rfl (by decide) v xs.length _ hs hown ad 0 cap [] hx rfl (by intro j u hj; simp at hj) (by intro u hu; simp at hu) (by unfold maxLen; omega) (by omega) hbase ?_
      intro v' w' h1 h2 _
      refine h v' w' ?_ h2
      simpa [OwnB] using h1
  · refine wpList_append_own w hgd s x 22 ho base 5 i0 (.int .u8 0) 1 1 Try.underlying22 hi hz0 hz1 hz2 rfl (by decide) v xs.length _ hs hown ⟨b, off, none⟩ ys.length cap (ys.map (Value.int .u8)) hx (by simp) ?_ ?_ (by unfold maxLen; omega) (by omega) hbase ?_
    · intro j u hj
      have hjl : j < ys.length := by
        rcases Nat.lt_or_ge j ys.length with h | h
        · exact h
        · rw [List.getElem?_eq_none (by simpa using h)] at hj; cases hj
      rw [addr_plain, hc j hjl, ← hj]
      simp [hjl]
    · intro u hu
      obtain ⟨n, _, rfl⟩ := List.mem_map.1 hu
      rfl
    · intro v' w' h1 h2 _
      refine h v' w' ?_ h2
      simpa [OwnB] using h1

theorem OwnB.shape {w : World} {base : Nat} {v : Value} {xs : List Int} (h : OwnB w base v xs) : ∃ a cap, v = .slice a xs.length cap ∧ xs.length ≤ cap := by
  rcases h.2 with ⟨rfl, h0⟩ | ⟨g, cap, cur, rfl, hg, hh, h1, _⟩
  · exact ⟨none, 0, by rw [h0], by omega⟩
  · exact ⟨_, cap, rfl, h1⟩
/-- The first of them. -/
theorem OwnB.take {w : World} {base : Nat} {a : Option Addr} {m c : Nat} {xs : List Int} (h : OwnB w base (.slice a m c) xs) (hu : u8s xs) (n : Nat) (hn : n ≤ xs.length) : BytesAt w (.slice a n c) (xs.take n) := by
  have hl : (xs.take n).length = n := by rw [List.length_take]; omega
  have hu' : u8s (xs.take n) := fun x hx => hu x (List.mem_of_mem_take hx)
  obtain ⟨_, ⟨rfl, a', cap, e, hz⟩ | ⟨b, off, cap, e, hlt, hc⟩⟩ := h.bytes hu
  · injection e with e1 e2 e3
    subst e1 e3
    simp at hn
    subst hn
    exact ⟨hu', .inl ⟨by simp, _, _, rfl, hz⟩⟩
  · injection e with e1 e2 e3
    subst e1 e3
    refine ⟨hu', .inr ⟨b, off, _, by rw [hl], hlt, fun j hj => ?_⟩⟩
    rw [hl] at hj
    rw [hc j (by omega), List.getElem?_take_of_lt hj]
theorem OwnB.below {w w' : World} {base : Nat} {v : Value} {xs : List Int} (h : OwnB w base v xs) (hb : Below w.heap.size w w') : OwnB w' base v xs := by
  refine ⟨h.1, ?_⟩
  rcases h.2 with h0 | ⟨g, cap, cur, rfl, hg, hh, r⟩
  · exact .inl h0
  · exact .inr ⟨g, cap, cur, rfl, hg, (hb.block g (lt_of_row hh)).trans hh, r⟩
theorem conv_bytes {w : World} {v : Value} {xs : List Int} (h : BytesAt w v xs) : ∀ nq, (convert 22 9 v).run Try.prog (w.drewN nq) = .ok (.string (strOfNums xs)) (w.drewN nq) := by
  obtain ⟨_, ⟨rfl, a, cap, rfl, hn⟩ | ⟨b, off, cap, rfl, _, hc⟩⟩ := h
  · intro nq
    cases a with
    | none => exact run_convert_bytes_nil (P := Try.prog) (w.drewN nq) 22 5 Try.underlying22 Try.underlying5 0 cap 9 Try.underlying9
    | some ad =>
      rw [run_convert_bytes_string (w.drewN nq) 22 9 5 _ 0 cap Try.underlying22 Try.underlying5 Try.underlying9, run_bytesToString (w.drewN nq) ad 0 cap [] rfl]
      rfl
  · exact conv_at hc
end Go.Proofs.Ytbohgkegchmnaaa.bl
