/- The walk of the lender's back, no lists of lists lent. -/
import Derived.Test.YtbohgkegchmnaaaLendWalk
namespace Go.Proofs.Ytbohgkegchmnaaa.bw
open Go.ChangeShapes Go.WideShapes Go.ChangeAt Go.RowKit Core cw bl hl kw ll lw

def dIn : In := (0, .nilIface, [])
theorem mapIn_at {β : Type} (f : In → β) (l : List In) (j : Nat) (h : j < l.length) : (l.map f)[j]? = some (f (l[j]?.getD dIn)) := by
  rw [List.getElem?_map, List.getElem?_eq_getElem h]; rfl
theorem memIn (l : List In) (j : Nat) (h : j < l.length) : l[j]?.getD dIn ∈ l := by
  rw [List.getElem?_eq_getElem h]; exact List.getElem_mem h
theorem ordIn {l : List In} (h : l.Pairwise (fun x y => x.1 < y.1)) (i j : Nat) (hij : i < j) (hj : j < l.length) : (l[i]?.getD dIn).1 < (l[j]?.getD dIn).1 := by
  rw [List.getElem?_eq_getElem (by omega), List.getElem?_eq_getElem hj]
  exact List.pairwise_iff_getElem.1 h i j (by omega) hj hij

/-- The block of one that was lent. -/
def IsLent (ins : List In) (k : Nat) : Prop := ∃ x ∈ ins, x.1 = k

/-- i of those that were lent have been looked at and written over. -/
structure BK (w : World) (ins : List In) (i : Nat) (wr : World) : Prop where
  but : But (IsLent ins) w wr
  rest : ∀ j, i ≤ j → j < ins.length → wr.heap[(ins[j]?.getD dIn).1]? = w.heap[(ins[j]?.getD dIn).1]?

theorem not_lent {w0 w : World} {hb : Nat} {C : Value} {N : Int} {vi vw vo vm : Value} {ins : List In} (h : Lent w0 w hb C N vi vw vo vm ins) {g : Nat} {cs : Array Value} {t : TypeId} (hg : w.heap[g]? = some (.cells cs t (0, 0))) (ht : t ≠ 5) : ¬ IsLent ins g := by
  rintro ⟨x, hx, rfl⟩
  rw [(h.lent x hx).1] at hg
  simp only [Option.some.injEq, Obj.cells.injEq] at hg
  exact ht hg.2.1.symm

theorem bk_next {w wr w' : World} {ins : List In} {i gx : Nat} {l : Value} {xs : List Int} (h : BK w ins i wr) (hb : But (fun k => k = gx) wr w') (hx : (gx, l, xs) ∈ ins) (ho : ∀ j, i < j → j < ins.length → gx < (ins[j]?.getD dIn).1) (hlt : ∀ x ∈ ins, x.1 < w.heap.size) : BK w ins (i + 1) w' := by
  refine ⟨h.but.then hb (fun k _ e => ⟨_, hx, e.symm⟩), fun j hj hjl => ?_⟩
  have h1 := h.rest j (by omega) hjl
  have h2 := ho j (by omega) hjl
  have h3 := hlt _ (memIn ins j hjl)
  generalize (ins[j]?.getD dIn).1 = q at *
  rw [hb.block q (Nat.lt_of_lt_of_le h3 h.but.size) (by omega)]; exact h1
theorem vs_setAny (ys : List Int) (z : Nat) (y : Int) : (vs ys).setIfInBounds z (.int .u8 y) = vs (ys.set z y) := by
  apply Array.ext'
  simp [vs, List.map_set]

set_option maxRecDepth 100000 in
set_option maxHeartbeats 2000000 in
theorem back_any (w0 w : World) (hb : Nat) (N : Int) (vi vw vo vm : Value) (ins : List In) (h : Lent w0 w hb (.slice none 0 0) N vi vw vo vm ins) (h0 : 0 < ins.length) (hins : ins.length ≤ 1000) (hxs : ∀ x ∈ ins, x.2.2.length ≤ 140737488351232) :
    Calls Try.prog 15 #[.pointer (some ⟨hb, 0, none⟩), .slice none 0 0] w fun e w' => e = .returned (.bool true) ∧ w'.heap[hb]? = some (.cells #[.slice none 0 0, .slice none 0 0, .slice none 0 0, .int .i64 N, vo, vm] 28 (0, 0)) ∧
      But (fun k => k = hb ∨ IsLent ins k) w w' := by
  obtain ⟨gi, ci, rfl, hgi⟩ := own_some (own_base h.oi (Nat.zero_le _)) h0
  obtain ⟨gw, cw', rfl, hgw⟩ := own_some (own_base h.ow (Nat.zero_le _)) h0
  obtain ⟨curi, hti⟩ := own_type h.oi gi rfl
  obtain ⟨curw, htw⟩ := own_type h.ow gw rfl
  have hnb := not_lent h h.row (by decide)
  have hni := not_lent h hti (by decide)
  have hnw := not_lent h htw (by decide)
  have Hgi : Hid (∀ j, j < ins.length → w.cell? ⟨gi, j, none⟩ = some (inVal (ins[j]?.getD dIn))) := fun j hj => by rw [hgi j hj]; exact mapIn_at _ _ _ hj
  have Hgw : Hid (∀ j, j < ins.length → w.cell? ⟨gw, j, none⟩ = some (ins[j]?.getD dIn).2.1) := fun j hj => by rw [hgw j hj]; exact mapIn_at _ _ _ hj
  have hil := lt_of_row hti
  have hwl := lt_of_row htw
  have hbl := lt_of_row h.row
  obtain ⟨c0, c1, c2, c3, c4, c5, fr⟩ := cells6 h.row
  clear c3 c4 c5 fr hgi hgw hti htw
  go_enter Try.func15, Try.ntmps15
  go_wp2_with fail
  refine wp_loop_rounds 1 ?_
  rw [rounds_succ]
  go_wp2_with fail
  have hbk0 : BK w ins 0 w := ⟨But.refl _ _, fun _ _ _ => rfl⟩
  go_loopw [5, 11] (fun kv iv wr => ∃ i : Nat, i ≤ ins.length ∧ iv = .int .i64 i ∧ kv = .bool true ∧ BK w ins i wr) (fun _ iv _ => ins.length - (intOf iv).toNat)
  case atStart => exact ⟨0, Nat.zero_le _, rfl, rfl, hbk0⟩
  case round =>
    clear hbk0
    obtain ⟨i, hi, rfl, rfl, hbk⟩ := hrel
    have e0 := (hbk.but.cell (p := ⟨hb, 0, none⟩) hbl hnb).trans c0
    have e1 := (hbk.but.cell (p := ⟨hb, 1, none⟩) hbl hnb).trans c1
    by_cases hlt : i < ins.length
    · have hlt2 : (i : Int) < (ins.length : Int) := by omega
      have hix := memIn ins i hlt
      have a1 := (hbk.but.cell (p := ⟨gi, i, none⟩) hil hni).trans (Hgi.out i hlt)
      have a2 := (hbk.but.cell (p := ⟨gw, i, none⟩) hwl hnw).trans (Hgw.out i hlt)
      have hrow := (hbk.rest i (Nat.le_refl _) hlt).trans (h.lent _ hix).1
      have hbut0 : But (fun k => k = hb) w0 wr := h.but.then hbk.but (fun q hq e => by obtain ⟨x, hx, rfl⟩ := e; have := (h.lent x hx).2; omega)
      have hW := bytes_notin (h.want _ hix).1 hbut0 (h.want _ hix).2
      have hxl := hxs _ hix
      have hgl : (ins[i]?.getD dIn).1 < wr.heap.size := lt_of_row hrow
      have Hor : Hid (∀ j, i < j → j < ins.length → (ins[i]?.getD dIn).1 < (ins[j]?.getD dIn).1) := fun j h1 h2 => ordIn h.ord i j h1 h2
      generalize hxx : ins[i]?.getD dIn = x at *
      have Hxx : Hid _ := hxx
      clear hxx hbut0
      obtain ⟨gx, l, xs⟩ := x
      simp only at hrow hW hxl hgl a2
      unfold inVal at a1
      simp only at a1
      obtain ⟨la, lc, rfl⟩ := hW.shape
      have hv1 : ∀ nq, (convert 22 9 (.slice (some ⟨gx, 0, none⟩) xs.length (xs.length + 2))).run Try.prog (wr.drewN nq) = .ok (.string (strOfNums xs)) (wr.drewN nq) :=
        conv_at (w := wr) (b := gx) (off := 0) (cap := xs.length + 2) (xs := xs) (by intro t ht; rw [Nat.zero_add, cell_of_row wr gx t _ _ _ hrow, vs_get _ _ (by simp; omega), List.getElem?_append_left ht])
      have hv2 := conv_bytes hW
      have hv10 := conv_drewN hv1
      have hv20 := conv_drewN hv2
      have b1 : wr.cell? ⟨gx, xs.length, none⟩ = some (.int .u8 165) := by rw [cell_of_row wr gx _ _ _ _ hrow, vs_get _ _ (by simp)]; simp
      have b2 : wr.cell? ⟨gx, xs.length + 1, none⟩ = some (.int .u8 165) := by rw [cell_of_row wr gx _ _ _ _ hrow, vs_get _ _ (by simp)]; simp
      generalize strOfNums xs = D at *
      have hrowE : ∃ ys : List Int, ys.length = xs.length + 2 ∧ wr.heap[gx]? = some (.cells (vs ys) 5 (0, 0)) := ⟨_, by simp, hrow⟩
      have HrowE : Hid _ := hrowE
      clear hrowE hrow hW
      generalize hn : xs.length = n at *
      clear hn
      have hnl : (n : Int) ≤ 140737488351232 := by omega
      have hn0 : (0 : Int) ≤ (n : Int) := by omega
      have hn1 : (n : Int) ≤ (n : Int) + 2 := by omega
      have hn2 : (n : Int) < (n : Int) + 2 := by omega
      have hn3 : (n : Int) + 1 < (n : Int) + 2 := by omega
      go_wp2_with fail
      go_quiet (fail)
      go_wp2_with fail
      clear hv10 hv20 b1 b2 a1 a2 e0 e1
      have HrowE2 : Hid (∃ ys : List Int, ys.length = n + 2 ∧ (wr.drewN nq).heap[gx]? = some (.cells (vs ys) 5 (0, 0))) := HrowE
      have hbutN : But (fun k => k = gx) wr (wr.drewN nq) := (But.refl _ _).drewN _
      have hbk2 : ∀ w', But (fun k => k = gx) wr w' → BK w ins (i + 1) w' := fun w' hb' => bk_next hbk hb' (by exact hix) Hor.out (fun x hx => lt_of_row (h.lent x hx).1)
      have Hbk2 : Hid _ := hbk2
      clear hbk2 hv1 hv2 HrowE
      generalize wr.drewN nq = wy at *
      go_loopw [14] (fun zv wz => ∃ z : Nat, z ≤ n + 2 ∧ zv = .int .i64 z ∧ Hid (∃ ys : List Int, ys.length = n + 2 ∧ wz.heap[gx]? = some (.cells (vs ys) 5 (0, 0))) ∧ Hid (∀ u, But (fun k => k = gx) wz u → BK w ins (i + 1) u)) (fun zv _ => n + 2 - (intOf zv).toNat)
      case atStart => exact ⟨0, Nat.zero_le _, rfl, HrowE2, fun u hu => Hbk2.out u (hbutN.trans hu)⟩
      case round =>
        clear HrowE2 hbutN Hbk2 hbk
        obtain ⟨z, hz, rfl, HE, HB⟩ := hrel
        by_cases hlt3 : z < n + 2
        · have hlt4 : (z : Int) < (n : Int) + 2 := by omega
          obtain ⟨ys, hyl, hyr⟩ := HE.out
          have d1 : wr.cell? ⟨gx, z, none⟩ = some (.int .u8 (ys[z]?.getD 0)) := (cell_of_row wr gx z _ _ _ hyr).trans (vs_get _ _ (by omega))
          have d2 := frozen_of_row wr gx z _ _ hyr
          have hnew := heap_setCell_same wr gx z _ _ (.int .u8 90) hyr
          rw [vs_setAny] at hnew
          have HE2 : Hid (∃ ys : List Int, ys.length = n + 2 ∧ (wr.setCell ⟨gx, z, none⟩ (.int .u8 90)).heap[gx]? = some (.cells (vs ys) 5 (0, 0))) := ⟨_, by rw [List.length_set]; exact hyl, hnew⟩
          have HB2 : Hid (∀ u, But (fun k => k = gx) (wr.setCell ⟨gx, z, none⟩ (.int .u8 90)) u → BK w ins (i + 1) u) := fun u hu => HB.out u (((But.refl (fun k => k = gx) wr).setCell (p := ⟨gx, z, none⟩) (.inl rfl) _).trans hu)
          clear HE HB hyr hnew hyl
          generalize ys[z]?.getD 0 = y at *
          go_wp2_with fail
          go_roundw
          case rel => exact ⟨z + 1, by omega, by go_num, HE2, HB2⟩
          case measure => simp [intOf]; omega
        · have hlt4 : ¬ (z : Int) < (n : Int) + 2 := by omega
          have hbk3 := HB.out wr (But.refl _ _)
          clear HE HB hxl hnl hn0 hn1 hn2 hn3
          go_wp2_with fail
          go_roundw
          case rel => exact ⟨i + 1, by omega, by go_num, rfl, hbk3⟩
          case measure => simp [intOf]; omega
    · have hlt2 : ¬ (i : Int) < (ins.length : Int) := by omega
      have hrowb := (hbk.but.block hb hbl hnb).trans h.row
      obtain ⟨f0, f1, f2, f3, f4, f5, ffr⟩ := cells6 hrowb
      have Hrowb : Hid _ := hrowb
      clear hrowb f3 f4 f5
      go_wp2_with fail
      go_ret
      refine ⟨rfl, ?_, ?_⟩
      · have r1 := heap_setCell_same wr hb 0 _ _ (.slice none 0 0) Hrowb.out
        have r2 := heap_setCell_same _ hb 1 _ _ (.slice none 0 0) r1
        have r3 := heap_setCell_same _ hb 2 _ _ (.slice none 0 0) r2
        simpa using r3
      · exact (((hbk.but.mono (R := fun k => k = hb ∨ IsLent ins k) (fun _ _ h => .inr h)).setCell (p := ⟨hb, 0, none⟩) (.inl (.inl rfl)) _).setCell (p := ⟨hb, 1, none⟩) (.inl (.inl rfl)) _).setCell (p := ⟨hb, 2, none⟩) (.inl (.inl rfl)) _
end Go.Proofs.Ytbohgkegchmnaaa.bw
