/- The walks of draw.Challenge and signet.Challenge. -/
import Derived.Test.YtbohgkegchmnaaaReduceWalk
namespace Go.Proofs.Ytbohgkegchmnaaa.dc
open Go.ChangeShapes Go.WideShapes Go.ChangeAt Go.RowKit Core cw nx sw ch rd

theorem add_one (s x : Int) (b : Nat) (w : World) (hx : 0 ≤ x ∧ x ≤ 255) (c0 : w.cell? ⟨b, 0, none⟩ = some (.int .u8 x)) :
    Calls Try.prog 26 #[.int .u64 s, .slice (some ⟨b, 0, none⟩) 1 1] w fun e w' => e = .returned (.int .u64 (foldB s [x])) ∧ w' = w := by
  refine add_some s b 0 1 [x] w (by simp) ?_ ?_
  · intro z hz
    simp at hz
    subst hz
    assumption
  · intro j hj
    match j, hj with
    | 0, _ => exact c0

theorem zeros : is [0, 0, 0, 0, 0, 0, 0, 0] = #[.int .i64 0, .int .i64 0, .int .i64 0, .int .i64 0, .int .i64 0, .int .i64 0, .int .i64 0, .int .i64 0] := rfl

theorem four (w : World) (A B C D E : Obj) : (((((w.alloc A).alloc B).alloc C).alloc D).alloc E).heap[w.heap.size]? = some A ∧ (((((w.alloc A).alloc B).alloc C).alloc D).alloc E).heap[w.heap.size + 1 + 1]? = some C ∧ (((((w.alloc A).alloc B).alloc C).alloc D).alloc E).heap[w.heap.size + 1 + 1 + 1]? = some D ∧ (((((w.alloc A).alloc B).alloc C).alloc D).alloc E).heap[w.heap.size + 1 + 1 + 1 + 1]? = some E ∧ Below w.heap.size w (((((w.alloc A).alloc B).alloc C).alloc D).alloc E) := by
  refine ⟨row_alloc (row_alloc (row_alloc (row_alloc (heap_alloc_new _ _)))), row_alloc (row_alloc (heap_new3 _ _ _ _)), row_alloc ?_, ?_, (((((Below.refl _ _).alloc (Nat.le_refl _) _).alloc (by simp) _).alloc (by simp; omega) _).alloc (by simp; omega) _).alloc (by simp; omega) _⟩
  · have h := heap_alloc_new (((w.alloc A).alloc B).alloc C) D
    rwa [show (((w.alloc A).alloc B).alloc C).heap.size = w.heap.size + 1 + 1 + 1 by simp] at h
  · have h := heap_alloc_new ((((w.alloc A).alloc B).alloc C).alloc D) E
    rwa [show ((((w.alloc A).alloc B).alloc C).alloc D).heap.size = w.heap.size + 1 + 1 + 1 + 1 by simp] at h

theorem list8 {l : List Int} (h : l.length = 8) : ∃ c0 c1 c2 c3 c4 c5 c6 c7, l = [c0, c1, c2, c3, c4, c5, c6, c7] := by
  match l, h with
  | [c0, c1, c2, c3, c4, c5, c6, c7], _ => exact ⟨c0, c1, c2, c3, c4, c5, c6, c7, rfl⟩

theorem cells8 {w : World} {g : Nat} {t : TypeId} {a0 a1 a2 a3 a4 a5 a6 a7 : Value} (h : w.heap[g]? = some (.cells #[a0, a1, a2, a3, a4, a5, a6, a7] t (0, 0))) :
    w.cell? ⟨g, 0, none⟩ = some a0 ∧ w.cell? ⟨g, 1, none⟩ = some a1 ∧ w.cell? ⟨g, 2, none⟩ = some a2 ∧ w.cell? ⟨g, 3, none⟩ = some a3 ∧ w.cell? ⟨g, 4, none⟩ = some a4 ∧ w.cell? ⟨g, 5, none⟩ = some a5 ∧ w.cell? ⟨g, 6, none⟩ = some a6 ∧ w.cell? ⟨g, 7, none⟩ = some a7 ∧ ∀ j, w.frozen? ⟨g, j, none⟩ = false :=
  ⟨cell_of_row w g 0 _ _ _ h, cell_of_row w g 1 _ _ _ h, cell_of_row w g 2 _ _ _ h, cell_of_row w g 3 _ _ _ h, cell_of_row w g 4 _ _ _ h, cell_of_row w g 5 _ _ _ h, cell_of_row w g 6 _ _ _ h, cell_of_row w g 7 _ _ _ h, fun j => frozen_of_row w g j _ _ h⟩

/-- One step: the coefficient k becomes that at j, then the coefficient at j becomes x. -/
structure St (w0 : World) (g b : Nat) (lim s : Int) (i : Nat) (cs : List Int) (w : World) : Prop where
  rd : RdAt w (g + 1 + 1) s i
  row : w.heap[g + 1 + 1 + 1]? = some (.cells (is cs) 39 (0, 0))
  out : w.heap[g]? = some (.cells (is [0, 0, 0, 0, 0, 0, 0, 0]) 39 (0, 0))
  bel : Below g w0 w
  len : cs.length = 8
  var : w.heap[b]? = some (.cells #[.int .i64 lim] 3 (0, 0))
  apart : g + 1 + 1 + 1 < b

theorem St.read {w0 w w' : World} {g b i i' : Nat} {lim s : Int} {cs : List Int} (h : St w0 g b lim s i cs w) (hr : RdAt w' (g + 1 + 1) s i') (hb : But (· = g + 1 + 1) w w') : St w0 g b lim s i' cs w' :=
  ⟨hr, (hb.block _ (lt_of_row h.row) (by omega)).trans h.row, (hb.block _ (lt_of_row h.out) (by omega)).trans h.out, h.bel.trans (hb.below (by have := lt_of_row h.out; omega) (by intro k hk; omega)), h.len, (hb.block _ (lt_of_row h.var) (by have := h.apart; omega)).trans h.var, h.apart⟩
theorem St.drewN {w0 w : World} {g b i : Nat} {lim s : Int} {cs : List Int} (h : St w0 g b lim s i cs w) (n : Nat) : St w0 g b lim s i cs (w.drewN n) :=
  ⟨h.rd, h.row, h.out, ⟨h.bel.os, h.bel.tape, h.bel.output, h.bel.size, h.bel.block⟩, h.len, h.var, h.apart⟩
theorem St.drew {w0 w : World} {g b i : Nat} {lim s : Int} {cs : List Int} (h : St w0 g b lim s i cs w) : St w0 g b lim s i cs w.drew :=
  ⟨h.rd, h.row, h.out, ⟨h.bel.os, h.bel.tape, h.bel.output, h.bel.size, h.bel.block⟩, h.len, h.var, h.apart⟩
theorem St.store {w0 w : World} {g b i : Nat} {lim s : Int} {cs : List Int} (h : St w0 g b lim s i cs w) (j : Nat) (x : Int) : St w0 g b lim s i (cs.set j x) (w.setCell ⟨g + 1 + 1 + 1, j, none⟩ (.int .i64 x)) :=
  ⟨h.rd.kept (But.setCell (S := fun k => k = g + 1 + 1 + 1) (But.refl _ _) (.inl rfl) _) (by omega), by have := heap_setCell_same w (g + 1 + 1 + 1) j _ _ (.int .i64 x) h.row; rwa [is_set] at this,
    by rw [heap_setCell_other _ _ _ _ (by simp; omega)]; exact h.out, h.bel.setCell (by simp; omega) _, by simp [h.len], by rw [heap_setCell_other _ _ _ _ (by have := h.apart; simp; omega)]; exact h.var, h.apart⟩
theorem St.cell {w0 w : World} {g b i : Nat} {lim s : Int} {cs : List Int} (h : St w0 g b lim s i cs w) (j : Nat) (hj : j < 8) : w.cell? ⟨g + 1 + 1 + 1, j, none⟩ = some (.int .i64 (cs[j]?.getD 0)) ∧ w.frozen? ⟨g + 1 + 1 + 1, j, none⟩ = false :=
  ⟨(cell_of_row w _ j _ _ _ h.row).trans (is_get cs j (by rw [h.len]; exact hj)), frozen_of_row w _ j _ _ h.row⟩
theorem St.vcell {w0 w : World} {g b i : Nat} {lim s : Int} {cs : List Int} (h : St w0 g b lim s i cs w) : w.cell? ⟨b, 0, none⟩ = some (.int .i64 lim) := cell_of_row w b 0 _ _ _ h.var
/-- The next round's variable. -/
theorem St.next {w0 w : World} {g b i n : Nat} {lim s : Int} {cs : List Int} (h : St w0 g b lim s i cs w) (lim' : Int) (hn : w.heap.size = n) : St w0 g n lim' s i cs (w.alloc (.cells #[.int .i64 lim'] 3 (0, 0))) := by
  subst hn
  have hb : But (fun _ => False) w (w.alloc (.cells #[.int .i64 lim'] 3 (0, 0))) := But.alloc (But.refl _ _) _
  exact ⟨h.rd.kept hb (by simp), (hb.block _ (lt_of_row h.row) (by simp)).trans h.row, (hb.block _ (lt_of_row h.out) (by simp)).trans h.out, h.bel.trans (hb.below (by have := lt_of_row h.out; omega) (by simp)), h.len, heap_alloc_new _ _, lt_of_row h.row⟩

theorem cell_kept {w : World} {p q : Addr} {u v x : Value} (hp : w.cell? p = some u) (hq : w.cell? q = some x) (h : p = q → v = x) : (w.setCell p v).cell? q = some x := by
  by_cases hpq : p = q
  · subst hpq
    rw [World.cell?_setCell_same w p v hp, h rfl]
  · rw [World.cell?_setCell_other (h := hpq), hq]

set_option maxHeartbeats 1000000 in
theorem drawCh_any (v : Value) (xs : List Int) (w : World) (hm : xs.length ≤ 140737488355328) (h : BytesAt w v xs) :
    Calls Try.prog 25 #[v] w fun e w' => ∃ c0 c1 c2 c3 c4 c5 c6 c7 : Int, Hid (chal (foldB (foldB fnv0 xs) [4]) = [c0, c1, c2, c3, c4, c5, c6, c7]) ∧ e = .returned (.agg #[.int .i64 c0, .int .i64 c1, .int .i64 c2, .int .i64 c3, .int .i64 c4, .int .i64 c5, .int .i64 c6, .int .i64 c7]) ∧ Below w.heap.size w w' := by
  have hok := fold_ok [4] _ (fold_ok xs _ fnv0_ok)
  go_enter Try.func25, Try.ntmps25
  go_wp2_with fail
  refine (of_any v xs _ hm (h.alloc _)).mono ?_
  rintro e w1 ⟨rfl, rfl⟩
  go_wp2_with fail
  refine (add_one _ 4 _ _ (by omega) (by simp)).mono ?_
  rintro e w1 ⟨rfl, rfl⟩
  generalize hss : foldB (foldB fnv0 xs) [4] = s at *
  have Hs : Hid (foldB (foldB fnv0 xs) [4] = s) := hss
  clear hss
  go_wp2_with fail
  refine (dstream_any s _).mono ?_
  rintro e w1 ⟨rfl, rfl⟩
  go_wp2_with fail
  obtain ⟨q0, q2, q3, q4, qb⟩ := four w (.cells (is [0, 0, 0, 0, 0, 0, 0, 0]) 39) (.cells #[.int .u8 4] 5) (.cells #[.int .u64 s, .int .u16 0, .int .u8 0, .int .u8 0, .int .u8 0, .int .u8 0, .int .u8 0, .int .u8 0, .int .u8 0, .int .u8 0, .int .i64 8] 65) (.cells (is [0, 0, 0, 0, 0, 0, 0, 0]) 39) (.cells #[.int .i64 6] 3)
  have st : St w w.heap.size (w.heap.size + 1 + 1 + 1 + 1) 6 s 0 [0, 0, 0, 0, 0, 0, 0, 0] _ := ⟨⟨0, 8, 0, 0, 0, 0, 0, 0, 0, 0, q2, .inl ⟨rfl, rfl, rfl⟩⟩, q3, q0, qb, rfl, q4, by omega⟩
  clear q0 q2 q3 q4 qb
  rw [zeros] at st
  generalize hw4 : ((((w.alloc _).alloc _).alloc _).alloc _).alloc _ = w4 at st ⊢
  clear hw4
  generalize hg : w.heap.size = g at *
  have Hg : Hid (w.heap.size = g) := hg
  clear hg
  generalize hb6 : g + 1 + 1 + 1 + 1 = b6 at *
  clear hb6
  refine wp_loop_rounds 3 ?_
  rw [rounds_succ]
  have vb6 := st.vcell
  go_wp2_with fail
  obtain ⟨j6, i6, hp6, hj6, hk6⟩ := place_nat s 6 0
  have Hc6 : Hid _ := chStep_of s 6 ([0, 0, 0, 0, 0, 0, 0, 0] : List Int) 0 hp6
  refine (place_any s 6 _ _ 0 _ hok st.rd st.var (by have := st.apart; omega)).mono ?_
  rintro e wa6 ⟨rfl, hrd, hbut⟩
  have sta6 := st.read hrd hbut
  clear hrd hbut st vb6
  have hpp : place s 6 most 0 = ((j6 : Int), i6) := hp6
  clear hp6
  rw [hpp] at sta6 ⊢
  clear hpp
  simp only at sta6 ⊢
  have hjj6 : (j6 : Int) < 8 := by omega
  obtain ⟨ca6, fa6⟩ := sta6.cell j6 (by omega)
  obtain ⟨cb6, fb6⟩ := sta6.cell 6 (by omega)
  have va6 := sta6.vcell
  have stb6 := (sta6.store 6 (([0, 0, 0, 0, 0, 0, 0, 0] : List Int)[j6]?.getD 0))
  clear sta6
  generalize hX : ([0, 0, 0, 0, 0, 0, 0, 0] : List Int)[j6]?.getD 0 = X6 at *
  clear hX
  go_wp2_with fail
  have kc6 := cell_kept (v := .int .i64 X6) cb6 ca6 (fun _ => rfl)
  have kv6 := stb6.vcell
  go_region_held3 (fun w' => w'.cell? ⟨b6, 0, none⟩ = some (.int .i64 6) ∧ w'.cell? ⟨g + 1 + 1 + 1, j6, none⟩ = some (.int .i64 X6)) (first | exact ⟨va6, ca6⟩ | exact ⟨kv6, kc6⟩) (fail)
  clear kc6 kv6 va6 ca6 cb6 fa6 fb6
  have ste6 := stb6.drew
  clear stb6
  generalize hwe : (wa6.setCell _ _).drew = we6 at ste6 ⊢
  clear hwe
  go_wp2_with fail
  refine (sign_any s _ i6 _ hok ste6.rd).mono ?_
  rintro e wc6 ⟨rfl, hrd, hbut⟩
  have stc6 := ste6.read hrd hbut
  clear hrd hbut ste6
  obtain ⟨cc6, fc6⟩ := stc6.cell j6 (by omega)
  have std6 := stc6.store j6 (sgn s i6)
  clear stc6
  have vd6 := std6.vcell
  go_wp2_with fail
  have stn6 := std6.next (n := wc6.heap.size) 7 (by simp)
  clear std6 vd6
  have Hc6' : Hid (chStep s 6 ([0, 0, 0, 0, 0, 0, 0, 0], 0) = ((([0, 0, 0, 0, 0, 0, 0, 0] : List Int).set 6 X6).set j6 (sgn s i6), i6 + 1)) := Hc6
  clear Hc6 cc6 fc6
  generalize hCS : (([0, 0, 0, 0, 0, 0, 0, 0] : List Int).set 6 X6).set j6 (sgn s i6) = CS6 at Hc6' stn6
  clear hCS
  generalize hw6 : (wc6.setCell _ _).alloc _ = w6 at stn6 ⊢
  clear hw6
  generalize hb7 : wc6.heap.size = b7 at *
  clear hb7
  generalize hi16 : i6 + 1 = i16 at Hc6' stn6
  clear hi16
  rw [rounds_succ]
  have vb7 := stn6.vcell
  go_wp2_with fail
  obtain ⟨j7, i7, hp7, hj7, hk7⟩ := place_nat s 7 i16
  have Hc7 : Hid _ := chStep_of s 7 CS6 i16 hp7
  refine (place_any s 7 _ _ i16 _ hok stn6.rd stn6.var (by have := stn6.apart; omega)).mono ?_
  rintro e wa7 ⟨rfl, hrd, hbut⟩
  have sta7 := stn6.read hrd hbut
  clear hrd hbut stn6 vb7
  have hpp : place s 7 most i16 = ((j7 : Int), i7) := hp7
  clear hp7
  rw [hpp] at sta7 ⊢
  clear hpp
  simp only at sta7 ⊢
  have hjj7 : (j7 : Int) < 8 := by omega
  obtain ⟨ca7, fa7⟩ := sta7.cell j7 (by omega)
  obtain ⟨cb7, fb7⟩ := sta7.cell 7 (by omega)
  have va7 := sta7.vcell
  have stb7 := sta7.store 7 (CS6[j7]?.getD 0)
  clear sta7
  generalize hX : CS6[j7]?.getD 0 = X7 at *
  clear hX
  go_wp2_with fail
  have kc7 := cell_kept (v := .int .i64 X7) cb7 ca7 (fun _ => rfl)
  have kv7 := stb7.vcell
  go_region_held3 (fun w' => w'.cell? ⟨b7, 0, none⟩ = some (.int .i64 7) ∧ w'.cell? ⟨g + 1 + 1 + 1, j7, none⟩ = some (.int .i64 X7)) (first | exact ⟨va7, ca7⟩ | exact ⟨kv7, kc7⟩) (fail)
  clear kc7 kv7 va7 ca7 cb7 fa7 fb7
  have ste7 := stb7.drew
  clear stb7
  generalize hwe : (wa7.setCell _ _).drew = we7 at ste7 ⊢
  clear hwe
  go_wp2_with fail
  refine (sign_any s _ i7 _ hok ste7.rd).mono ?_
  rintro e wc7 ⟨rfl, hrd, hbut⟩
  have stc7 := ste7.read hrd hbut
  clear hrd hbut ste7
  obtain ⟨cc7, fc7⟩ := stc7.cell j7 (by omega)
  have std7 := stc7.store j7 (sgn s i7)
  clear stc7
  have vd7 := std7.vcell
  go_wp2_with fail
  have stn7 := std7.next (n := wc7.heap.size) 8 (by simp)
  clear std7 vd7 cc7 fc7
  generalize hCS : (CS6.set 7 X7).set j7 (sgn s i7) = CS7 at Hc7 stn7
  clear hCS
  generalize hw7 : (wc7.setCell _ _).alloc _ = w7 at stn7 ⊢
  clear hw7
  generalize hb8 : wc7.heap.size = b8 at *
  clear hb8
  rw [rounds_succ]
  have vb8 := stn7.vcell
  have hch : chal s = CS7 := by
    unfold chal
    rw [Hc6'.out, Hc7.out]
  clear Hc7 Hc6'
  obtain ⟨c0, c1, c2, c3, c4, c5, c6, c7, rfl⟩ := list8 stn7.len
  obtain ⟨d0, e0⟩ := stn7.cell 0 (by omega)
  obtain ⟨d1, e1⟩ := stn7.cell 1 (by omega)
  obtain ⟨d2, e2⟩ := stn7.cell 2 (by omega)
  obtain ⟨d3, e3⟩ := stn7.cell 3 (by omega)
  obtain ⟨d4, e4⟩ := stn7.cell 4 (by omega)
  obtain ⟨d5, e5⟩ := stn7.cell 5 (by omega)
  obtain ⟨d6, e6⟩ := stn7.cell 6 (by omega)
  obtain ⟨d7, e7⟩ := stn7.cell 7 (by omega)
  have o0 : w7.cell? ⟨g, 0, none⟩ = some (.int .i64 0) := cell_of_row w7 g 0 _ _ _ stn7.out
  have o1 : w7.cell? ⟨g, 1, none⟩ = some (.int .i64 0) := cell_of_row w7 g 1 _ _ _ stn7.out
  have o2 : w7.cell? ⟨g, 2, none⟩ = some (.int .i64 0) := cell_of_row w7 g 2 _ _ _ stn7.out
  have o3 : w7.cell? ⟨g, 3, none⟩ = some (.int .i64 0) := cell_of_row w7 g 3 _ _ _ stn7.out
  have o4 : w7.cell? ⟨g, 4, none⟩ = some (.int .i64 0) := cell_of_row w7 g 4 _ _ _ stn7.out
  have o5 : w7.cell? ⟨g, 5, none⟩ = some (.int .i64 0) := cell_of_row w7 g 5 _ _ _ stn7.out
  have o6 : w7.cell? ⟨g, 6, none⟩ = some (.int .i64 0) := cell_of_row w7 g 6 _ _ _ stn7.out
  have o7 : w7.cell? ⟨g, 7, none⟩ = some (.int .i64 0) := cell_of_row w7 g 7 _ _ _ stn7.out
  have of : ∀ j, w7.frozen? ⟨g, j, none⟩ = false := fun j => frozen_of_row w7 g j _ _ stn7.out
  have hbel := stn7.bel
  have Hch : Hid _ := hch
  clear stn7 hch e0 e1 e2 e3 e4 e5 e6 e7
  simp only [List.getElem?_cons_zero, List.getElem?_cons_succ, Option.getD_some] at d0 d1 d2 d3 d4 d5 d6 d7
  go_wp2_with fail
  refine bodyPost_ret (v := .agg #[.int .i64 c0, .int .i64 c1, .int .i64 c2, .int .i64 c3, .int .i64 c4, .int .i64 c5, .int .i64 c6, .int .i64 c7]) (by simp [results, Try.results25, go_sem, o0, o1, o2, o3, o4, o5, o6, o7]) rfl ⟨c0, c1, c2, c3, c4, c5, c6, c7, ?_, rfl, ?_⟩
  · rw [Hs.out]; exact Hch
  · rw [Hg.out]
    exact ((((((((hbel.setCell (p := ⟨g, 0, none⟩) (Nat.le_refl _) (.int .i64 c0)).setCell (p := ⟨g, 1, none⟩) (Nat.le_refl _) (.int .i64 c1)).setCell (p := ⟨g, 2, none⟩) (Nat.le_refl _) (.int .i64 c2)).setCell (p := ⟨g, 3, none⟩) (Nat.le_refl _) (.int .i64 c3)).setCell (p := ⟨g, 4, none⟩) (Nat.le_refl _) (.int .i64 c4)).setCell (p := ⟨g, 5, none⟩) (Nat.le_refl _) (.int .i64 c5)).setCell (p := ⟨g, 6, none⟩) (Nat.le_refl _) (.int .i64 c6)).setCell (p := ⟨g, 7, none⟩) (Nat.le_refl _) (.int .i64 c7))

/-- The coefficients of a challenge, as they are told. -/
def chMod (s : Int) : List Int := (chal s).map (· % 769)

set_option maxHeartbeats 1000000 in
theorem challenge_any (v : Value) (xs : List Int) (w : World) (hm : xs.length = 8) (h : BytesAt w v xs) :
    Calls Try.prog 11 #[v] w fun e w' => ∃ c0 c1 c2 c3 c4 c5 c6 c7 : Int, Hid (chMod (foldB (foldB fnv0 xs) [4]) = [c0, c1, c2, c3, c4, c5, c6, c7]) ∧ e = .returned (.tuple #[.agg #[.int .i64 c0, .int .i64 c1, .int .i64 c2, .int .i64 c3, .int .i64 c4, .int .i64 c5, .int .i64 c6, .int .i64 c7], .int .i64 0]) ∧ Below w.heap.size w w' := by
  obtain ⟨a, cap, rfl⟩ : ∃ a cap, v = .slice a 8 cap := by
    obtain ⟨_, ⟨rfl, _, _, rfl, _⟩ | ⟨b, off, cap, rfl, _, _⟩⟩ := h
    · simp at hm
    · rw [hm]; exact ⟨_, _, rfl⟩
  go_enter Try.func11, Try.ntmps11
  go_wp2_with fail
  refine (drawCh_any _ xs _ (by omega) (h.alloc _)).mono ?_
  rintro e w1 ⟨c0, c1, c2, c3, c4, c5, c6, c7, Hc, rfl, hb⟩
  go_wp2_with fail
  refine (reduce_any c0 c1 c2 c3 c4 c5 c6 c7 _).mono ?_
  rintro e w2 ⟨rfl, A, B, hw2⟩
  have hr0 : w1.heap[w.heap.size]? = some (.cells #[.int .i64 0, .int .i64 0, .int .i64 0, .int .i64 0, .int .i64 0, .int .i64 0, .int .i64 0, .int .i64 0] 39 (0, 0)) := (hb.block _ (by simp)).trans (heap_alloc_new _ _)
  have hr1 : w2.heap[w.heap.size]? = some (.cells #[.int .i64 0, .int .i64 0, .int .i64 0, .int .i64 0, .int .i64 0, .int .i64 0, .int .i64 0, .int .i64 0] 39 (0, 0)) := by rw [hw2]; exact row_alloc (row_alloc hr0)
  have hb1 : Below w.heap.size w w1 := ((Below.refl w.heap.size w).alloc (Nat.le_refl _) _).trans (hb.mono (by simp))
  have hb4 : Below w.heap.size w w2 := by
    rw [hw2]
    exact (hb1.alloc hb1.size _).alloc (by have := hb1.size; simp; omega) _
  clear hr0 hb1 hb hw2
  obtain ⟨o0, o1, o2, o3, o4, o5, o6, o7, of⟩ := cells8 hr1
  clear hr1
  go_wp2_with fail
  refine bodyPost_ret (v := .tuple #[.agg #[.int .i64 (c0 % 769), .int .i64 (c1 % 769), .int .i64 (c2 % 769), .int .i64 (c3 % 769), .int .i64 (c4 % 769), .int .i64 (c5 % 769), .int .i64 (c6 % 769), .int .i64 (c7 % 769)], .int .i64 0]) (by simp [results, Try.results11, go_sem, o0, o1, o2, o3, o4, o5, o6, o7]) rfl ⟨_, _, _, _, _, _, _, _, ?_, rfl, ?_⟩
  · show chMod _ = _
    unfold chMod
    rw [Hc.out]
    rfl
  · exact ((((((((hb4.setCell (p := ⟨w.heap.size, 0, none⟩) (Nat.le_refl _) (.int .i64 (c0 % 769))).setCell (p := ⟨w.heap.size, 1, none⟩) (Nat.le_refl _) (.int .i64 (c1 % 769))).setCell (p := ⟨w.heap.size, 2, none⟩) (Nat.le_refl _) (.int .i64 (c2 % 769))).setCell (p := ⟨w.heap.size, 3, none⟩) (Nat.le_refl _) (.int .i64 (c3 % 769))).setCell (p := ⟨w.heap.size, 4, none⟩) (Nat.le_refl _) (.int .i64 (c4 % 769))).setCell (p := ⟨w.heap.size, 5, none⟩) (Nat.le_refl _) (.int .i64 (c5 % 769))).setCell (p := ⟨w.heap.size, 6, none⟩) (Nat.le_refl _) (.int .i64 (c6 % 769))).setCell (p := ⟨w.heap.size, 7, none⟩) (Nat.le_refl _) (.int .i64 (c7 % 769)))
end Go.Proofs.Ytbohgkegchmnaaa.dc
