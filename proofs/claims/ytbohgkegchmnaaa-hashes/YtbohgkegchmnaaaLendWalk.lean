/- The walk of the lender's bytes. -/
import Derived.Test.YtbohgkegchmnaaaLendLaw
import Derived.Laws.CopyOwn
import Derived.Deep.OwnRows
namespace Go.Proofs.Ytbohgkegchmnaaa.lw
open Go.ChangeShapes Go.WideShapes Go.ChangeAt Go.RowKit Core cw bl hl kw ll

theorem mk8p (n : Nat) (h : n + 2 ≤ 281474976710656) (w : World) : (Instr.makeSlice 22 (.int .i64 ((n : Int) + 2)) (.int .i64 ((n : Int) + 2))).run Try.prog w = .ok (.slice (some ⟨w.heap.size, 0, none⟩) (n + 2) (n + 2)) (w.alloc (.cells (vs (List.replicate (n + 2) 0)) 5)) := by
  rw [← made_vs]
  exact run_make_row' 22 5 (.int .u8 0) 1 Try.underlying22 (by kernel_rfl) rfl .i64 .i64 (n + 2) (by omega) (by omega) w

theorem splice_zero (xs : List Int) : splice ((List.replicate (xs.length + 2) (0 : Int)).map (Value.int .u8)) 0 (xs.map (Value.int .u8)) = (xs ++ [0, 0]).map (Value.int .u8) := by
  unfold splice
  rw [List.take_zero, List.nil_append, Nat.zero_add, List.length_map, ← List.map_drop, List.drop_replicate, show xs.length + 2 - xs.length = 2 by omega, ← List.map_append]
  rfl
theorem vs_set_at (xs ys : List Int) (x y : Int) (n : Nat) (h : xs.length = n) : (vs (xs ++ x :: ys)).setIfInBounds n (.int .u8 y) = vs (xs ++ y :: ys) := by
  subst h; exact vs_set xs ys x y

theorem src_cells {w : World} {la : Option Addr} {n lc : Nat} {xs : List Int} (h : BytesAt w (.slice la n lc) xs) (h0 : 0 < xs.length) : ∃ ad, la = some ad ∧ ∀ j v, (xs.map (Value.int .u8))[j]? = some v → w.cell? (ad.add j) = some v := by
  obtain ⟨_, ⟨rfl, _⟩ | ⟨b, off, cap, e, _, hc⟩⟩ := h
  · simp at h0
  · injection e with e1 e2 e3
    refine ⟨_, e1, fun j u hj => ?_⟩
    have hjl : j < xs.length := by
      rcases Nat.lt_or_ge j xs.length with h | h
      · exact h
      · rw [List.getElem?_eq_none (by simpa using h)] at hj; cases hj
    rw [addr_plain, hc j hjl, ← hj]
    simp [hjl]

set_option maxHeartbeats 2000000 in
theorem bytes_any (w0 w : World) (hb : Nat) (C : Value) (N : Int) (vi vw vo vm : Value) (ins : List In) (l : Value) (xs : List Int) (h : Lent w0 w hb C N vi vw vo vm ins) (hins : ins.length ≤ 1000) (hl : BytesAt w0 l xs) (hlb : NotIn l hb) (hxs : xs.length ≤ 140737488351232) :
    Calls Try.prog 14 #[.pointer (some ⟨hb, 0, none⟩), l] w fun e w' => ∃ g vi' vw', w.heap.size ≤ g ∧ e = .returned (.slice (some ⟨g, 0, none⟩) xs.length (xs.length + 2)) ∧ Lent w0 w' hb C N vi' vw' vo vm (ins ++ [(g, l, xs)]) ∧ But (fun k => k = hb ∨ vi.ownBlock = some k ∨ vw.ownBlock = some k) w w' := by
  have hB := bytes_notin hl h.but hlb
  obtain ⟨la, lc, rfl⟩ := hl.shape
  have hmk := mk8p xs.length (by omega)
  have hxl : (xs.length : Int) ≤ 140737488351232 := by omega
  obtain ⟨c0, c1, c2, c3, c4, c5, fr⟩ := cells6 h.row
  clear c2 c3 c4 c5
  have hbl := lt_of_row h.row
  generalize hlen : xs.length = n at *
  have Hlen : Hid _ := hlen
  clear hlen
  go_enter Try.func14, Try.ntmps14
  go_upto_region 3 with fail
  have hg0 : (w.alloc (.cells (vs (List.replicate (n + 2) 0)) 5)).heap[w.heap.size]? = some (.cells ((List.replicate (n + 2) (0 : Int)).map (Value.int .u8)).toArray 5 (0, 0)) := heap_alloc_new _ _
  have hbe0 : Below w.heap.size w (w.alloc (.cells (vs (List.replicate (n + 2) 0)) 5)) := (Below.refl _ _).alloc (Nat.le_refl _) _
  have hB1 := hB.below hbe0
  generalize hw1 : w.alloc (.cells (vs (List.replicate (n + 2) 0)) 5) = w1 at *
  clear hw1 hmk
  have hpos : 0 < (xs.map (Value.int .u8)).length → some (⟨w.heap.size, 0, none⟩ : Addr) = some ⟨w.heap.size, 0, none⟩ ∧ ∃ ad, la = some ad ∧ ∀ j v, (xs.map (Value.int .u8))[j]? = some v → w1.cell? (ad.add j) = some v := fun h0 => ⟨rfl, src_cells hB1 (by simpa using h0)⟩
  have Hpos : Hid _ := hpos
  clear hpos
  go_upto_region 4 with (refine wpList_copy_splice rfl (.tmp 12) (.tmp 13) 22 22 rfl 5 Try.underlying22 (by kernel_rfl) (some ⟨w.heap.size, 0, none⟩) la (n + 2) (n + 2) n lc rfl rfl w.heap.size 0 _ 5 hg0 (xs.map (Value.int .u8)) (by rw [List.length_map, Hlen.out]; exact (Nat.min_eq_left (by omega)).symm) Hpos.out (by simp [Hlen.out]) (by intro v hv; obtain ⟨z, _, rfl⟩ := List.mem_map.1 hv; rfl) w.heap.size w hbe0 (Nat.le_refl _) ?_; intro w2 hrow2 hbe2)
  have hr2 : w2.heap[w.heap.size]? = some (.cells (vs (xs ++ [0, 0])) 5 (0, 0)) := by
    have := hrow2.out
    rw [← Hlen.out, splice_zero] at this
    exact this
  clear hrow2 hg0 hbe0 hB1 Hpos
  generalize hgx : w.heap.size = gx at *
  have Hgx : Hid _ := hgx
  clear hgx
  have hxl2 : (xs ++ [0, 0]).length = n + 2 := by rw [List.length_append, Hlen.out]; rfl
  have e1 : w2.cell? ⟨gx, n, none⟩ = some (.int .u8 ((xs ++ [0, 0])[n]?.getD 0)) := (cell_of_row w2 gx n _ _ _ hr2).trans (vs_get _ n (by omega))
  have e2 : w2.cell? ⟨gx, n + 1, none⟩ = some (.int .u8 ((xs ++ [0, 0])[n + 1]?.getD 0)) := (cell_of_row w2 gx (n + 1) _ _ _ hr2).trans (vs_get _ (n + 1) (by omega))
  have e3 : ∀ j, w2.frozen? ⟨gx, j, none⟩ = false := fun j => frozen_of_row w2 gx j _ _ hr2
  generalize (xs ++ [0, 0])[n]?.getD 0 = y1 at *
  generalize (xs ++ [0, 0])[n + 1]?.getD 0 = y2 at *
  have hr3 := heap_setCell_same w2 gx n _ _ (.int .u8 165) hr2
  rw [vs_set_at xs [0] 0 165 n Hlen.out] at hr3
  have hr4 := heap_setCell_same _ gx (n + 1) _ _ (.int .u8 165) hr3
  rw [show xs ++ [165, 0] = (xs ++ [165]) ++ 0 :: [] by simp, vs_set_at (xs ++ [165]) [] 0 165 (n + 1) (by rw [List.length_append, Hlen.out]; rfl), show (xs ++ [165]) ++ [165] = xs ++ [165, 165] by simp] at hr4
  have hbe4 : Below gx w ((w2.setCell ⟨gx, n, none⟩ (.int .u8 165)).setCell ⟨gx, n + 1, none⟩ (.int .u8 165)) := (hbe2.setCell (p := ⟨gx, n, none⟩) (Nat.le_refl _) _).setCell (p := ⟨gx, n + 1, none⟩) (Nat.le_refl _) _
  have Hr4 : Hid _ := hr4
  clear hr2 hr3 hr4 hbe2 hxl2
  go_upto_region 6 with fail
  clear e1 e2 e3
  have hL := h.below (by rw [Hgx.out]; exact hbe4)
  generalize hw3 : (w2.setCell ⟨gx, n, none⟩ (.int .u8 165)).setCell ⟨gx, n + 1, none⟩ (.int .u8 165) = w3 at *
  clear hw3 c0 c1 fr hB
  have hbe3 := hbe4
  clear hbe4
  obtain ⟨c0, c1, c2, c3, c4, c5, fr⟩ := cells6 hL.row
  clear c1 c2 c3 c4 c5
  have hbase : w0.heap.size ≤ w3.heap.size := hL.but.size
  have hbu3 : But (fun k => k = hb ∨ vi.ownBlock = some k ∨ vw.ownBlock = some k) w w3 := But.of_below _ (by rw [Hgx.out]; exact hbe3)
  clear hbe3
  have hil : ins.map inVal ++ [.slice (some ⟨gx, 0, none⟩) (n + 2) (n + 2)] = ins.map inVal ++ [inVal (gx, .slice la n lc, xs)] := by unfold inVal; rw [Hlen.out]
  have Hil : Hid _ := hil
  clear hil
  go_upto_region 7 with (at_builtin; refine appL rfl (.tmp 26) (.tmp 28) 25 22 (.slice none 0 0) 24 Try.underlying25 infoS rfl rfl w0.heap.size vi _ _ rfl (hL.oi.alloc _) ⟨w3.heap.size, 0, none⟩ 1 1 [.slice (some ⟨gx, 0, none⟩) (n + 2) (n + 2)] rfl (by omega) rfl (one_cell _ _ _) (by intro u hu; simp at hu; subst hu; rfl) (by unfold maxLen; omega) (by omega) (by simp; omega) ?_; intro vi2 w4 own4 app4; obtain ⟨oa4, oc4, rfl⟩ := own_shape own4; have hr5 := row_app (app_but2 (hb := hb) (f := 0) app4).2.1 hL.row (fun e => by have := own_ge hL.oi hb e; have := hL.hbl; omega); obtain ⟨d0, d1, d2, d3, d4, d5, dfr⟩ := cells6 hr5)
  rw [Hil.out] at own4
  have hbu5 := hbu3.then (app_but2 (hb := hb) (f := 0) app4).1 (fun k _ e => e.elim .inl (fun e => .inr (.inl e)))
  obtain ⟨p1, p2, p3, p4, p5, p6, p7⟩ := Lent.pushIn (y := (gx, .slice la n lc, xs)) hL Hr4.out own4 app4
  clear own4 app4 hr5 d0 d1 d2 d3 d4 d5 dfr c0 fr Hr4 Hil
  generalize hv4 : Value.slice oa4 (ins.length + 1) oc4 = vi2 at *
  clear hv4
  generalize hw5 : w4.setCell ⟨hb, 0, none⟩ vi2 = w5 at *
  clear hw5
  obtain ⟨c0, c1, c2, c3, c4, c5, fr⟩ := cells6 p1
  clear c0 c2 c3 c4 c5
  have hbase5 : w0.heap.size ≤ w5.heap.size := p7.size
  go_upto_region 8 with (at_builtin; refine appL rfl (.tmp 36) (.tmp 38) 25 22 (.slice none 0 0) 24 Try.underlying25 infoS rfl rfl w0.heap.size vw _ _ rfl (p3.alloc _) ⟨w5.heap.size, 0, none⟩ 1 1 [.slice la n lc] rfl (by omega) rfl (one_cell _ _ _) (by intro u hu; simp at hu; subst hu; rfl) (by unfold maxLen; omega) (by omega) (by simp; omega) ?_; intro vw2 w6 own6 app6; obtain ⟨oa6, oc6, rfl⟩ := own_shape own6; have hr6 := row_app (app_but2 (hb := hb) (f := 1) app6).2.1 p1 (fun e => by have := own_ge p3 hb e; have := hL.hbl; omega); obtain ⟨d0, d1, d2, d3, d4, d5, dfr⟩ := cells6 hr6)
  have hgxb : w0.heap.size ≤ gx := by have := h.but.size; rw [Hgx.out] at this; exact this
  have hbu7 := hbu5.then (app_but2 (hb := hb) (f := 1) app6).1 (fun k _ e => e.elim .inl (fun e => .inr (.inr e)))
  have hfin := Lent.pushWant (y := (gx, .slice la n lc, xs)) p1 p2 p3 p4 hL.hbl p5 p6 p7 (fun x hx => ⟨(hL.lent x hx).2, by have := lt_of_row (h.lent x hx).1; rw [Hgx.out] at this; exact this⟩) hgxb hL.want ⟨hl, hlb⟩ hL.ord own6 app6
  clear own6 app6 hr6 d0 d1 d2 d3 d4 d5 dfr c1 fr p1 p2 p3 p4 p5 p6 p7
  generalize hv6 : Value.slice oa6 (ins.length + 1) oc6 = vw2 at *
  clear hv6
  generalize hw7 : w6.setCell ⟨hb, 1, none⟩ vw2 = w7 at *
  clear hw7
  go_wp2_with fail
  go_ret
  exact ⟨gx, vi2, vw2, by rw [Hgx.out]; exact Nat.le_refl _, rfl, hfin, hbu7⟩
end Go.Proofs.Ytbohgkegchmnaaa.lw
