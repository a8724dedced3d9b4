/- A slice of bytes that came in. -/
import Derived.Test.YtbohgkegchmnaaaCoreWalks
import Derived.SizedLaws
namespace Go.Proofs.Ytbohgkegchmnaaa.ab
open Go.ChangeShapes Go.WideShapes Go.ChangeAt Go.RowKit Core

theorem bytes8 : Try.prog.bytesOf 5 = 1 := by kernel_rfl

theorem arg_bytes {H : Type} {enc : TypeId × Value → H} {W : World} {a : Option Addr} {len cap : Nat} {d : DataW H} {p : List MemPlace} (h : DataW.Trod enc Try.prog W 0 (fun _ => true) true 22 (.slice a len cap) d p)
    (hw : ∀ elems spare, d = .slice elems spare → (elems.length + spare.length) * Try.prog.bytesOf 5 ≤ reachBytes) : ∃ xs, BytesAt W (.slice a len cap) xs ∧ xs.length ≤ 140737488351232 := by
  obtain ⟨fuel, hf⟩ := h
  rcases open_ints Try.underlying22 Try.underlying5 (by kernel_rfl) hf with ⟨hcs, _⟩ | ⟨x, l, c, zs, hcs, _, hl, hm, hz, hx, hcell, hwz⟩
  · simp [Value.cells] at hcs
    obtain ⟨rfl, rfl, rfl⟩ := hcs
    exact ⟨[], BytesAt.nil _, by simp⟩
  · simp [Value.cells] at hcs
    obtain ⟨rfl, rfl, rfl⟩ := hcs
    simp only [if_true] at hz
    simp only [Prod.mk.injEq] at hx
    have hs := hw _ _ hx.1
    rw [bytes8] at hs
    simp only [lits, List.length_map, List.length_take, List.length_drop, reachBytes] at hs
    have hu : u8s (zs.take len) := fun y hy => bounds_u8 (hwz y (List.mem_of_mem_take hy))
    have hlen : (zs.take len).length = len := by rw [List.length_take]; omega
    refine ⟨zs.take len, ⟨hu, ?_⟩, by omega⟩
    by_cases h0 : len = 0
    · subst h0
      exact .inl ⟨by simp, some x, cap, rfl, by intro h; cases h⟩
    · obtain ⟨b, off, spot⟩ := x
      have hc := hcell 0 (by omega)
      have hspot : spot = none := by simpa [Addr.add] using World.cell?_spot hc
      subst hspot
      have hlt : b < W.heap.size := by
        have := block_lt_of_cell hc
        rwa [WideShapes.add_plain] at this
      refine .inr ⟨b, off, cap, by rw [hlen], hlt, fun j hj => ?_⟩
      rw [hlen] at hj
      have hcj := hcell j (by omega)
      rw [WideShapes.add_plain] at hcj
      rw [hcj, List.getElem?_take_of_lt hj, List.getD_eq_getElem?_getD]
end Go.Proofs.Ytbohgkegchmnaaa.ab
