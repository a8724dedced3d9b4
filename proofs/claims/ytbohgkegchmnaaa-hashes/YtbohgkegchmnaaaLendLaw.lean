/- What the lender has lent: laws. -/
import Derived.Test.YtbohgkegchmnaaaKeepWalk
namespace Go.Proofs.Ytbohgkegchmnaaa.ll
open Go.ChangeShapes Go.WideShapes Go.ChangeAt Go.RowKit Core cw bl hl kw

/-- One that was lent: its block, what it is a copy of, and the bytes. -/
abbrev In := Nat × Value × List Int
def inVal (x : In) : Value := .slice (some ⟨x.1, 0, none⟩) (x.2.2.length + 2) (x.2.2.length + 2)

/-- What is in v does not lie in block hb. -/
def NotIn (v : Value) (hb : Nat) : Prop := ∀ b off n c, v = .slice (some ⟨b, off, none⟩) n c → 0 < n → b ≠ hb
theorem bytes_notin {w w' : World} {v : Value} {xs : List Int} {hb : Nat} (h : BytesAt w v xs) (hbut : But (fun k => k = hb) w w') (hn : NotIn v hb) : BytesAt w' v xs := by
  obtain ⟨hu, h1 | ⟨b, off, cap, rfl, hlt, hc⟩⟩ := h
  · exact ⟨hu, .inl h1⟩
  · by_cases h0 : 0 < xs.length
    · exact ⟨hu, .inr ⟨b, off, cap, rfl, Nat.lt_of_lt_of_le hlt hbut.size, fun j hj => (hbut.cell (p := ⟨b, off + j, none⟩) hlt (hn b off _ _ rfl h0)).trans (hc j hj)⟩⟩
    · have h1 : xs = [] := List.eq_nil_of_length_eq_zero (by omega)
      subst h1
      exact ⟨hu, .inl ⟨rfl, _, cap, rfl, by intro h; cases h⟩⟩

structure Lent (w0 w : World) (hb : Nat) (C : Value) (N : Int) (vi vw vo vm : Value) (ins : List In) : Prop where
  row : w.heap[hb]? = some (.cells #[vi, vw, C, .int .i64 N, vo, vm] 28 (0, 0))
  oi : w.ownsRow w0.heap.size 22 1 vi ins.length (ins.map inVal)
  ow : w.ownsRow w0.heap.size 22 1 vw ins.length (ins.map (fun x => x.2.1))
  sep : ∀ g, vi.ownBlock = some g → vw.ownBlock ≠ some g
  hbl : hb < w0.heap.size
  lent : ∀ x ∈ ins, w.heap[x.1]? = some (.cells (vs (x.2.2 ++ [165, 165])) 5 (0, 0)) ∧ w0.heap.size ≤ x.1
  want : ∀ x ∈ ins, BytesAt w0 x.2.1 x.2.2 ∧ NotIn x.2.1 hb
  ord : ins.Pairwise (fun x y => x.1 < y.1)
  but : But (fun k => k = hb) w0 w

theorem Lent.wants {w0 w : World} {hb : Nat} {C : Value} {N : Int} {vi vw vo vm : Value} {ins : List In} (h : Lent w0 w hb C N vi vw vo vm ins) (x : In) (hx : x ∈ ins) : BytesAt w x.2.1 x.2.2 :=
  bytes_notin (h.want x hx).1 h.but (h.want x hx).2

theorem Lent.below {w0 w w' : World} {hb : Nat} {C : Value} {N : Int} {vi vw vo vm : Value} {ins : List In} (h : Lent w0 w hb C N vi vw vo vm ins) (hb' : Below w.heap.size w w') : Lent w0 w' hb C N vi vw vo vm ins :=
  ⟨(hb'.block hb (lt_of_row h.row)).trans h.row, own_but h.oi (But.of_below (fun _ => False) hb') (fun _ _ e => e), own_but h.ow (But.of_below (fun _ => False) hb') (fun _ _ e => e), h.sep, h.hbl,
    fun x hx => ⟨(hb'.block x.1 (lt_of_row (h.lent x hx).1)).trans (h.lent x hx).1, (h.lent x hx).2⟩, h.want, h.ord, h.but.then (But.of_below (fun _ => False) hb') (fun _ _ e => e.elim)⟩

theorem app_but2 {w w2 : World} {v v' : Value} {hb f : Nat} {x : Obj} (ha : AppTo (w.alloc x) v w2 v') : But (fun k => k = hb ∨ v.ownBlock = some k) w (w2.setCell ⟨hb, f, none⟩ v') ∧ But (fun k => v.ownBlock = some k) w w2 ∧ (∀ g, v'.ownBlock = some g → v.ownBlock = some g ∨ w.heap.size < g) := by
  have hb1 : But (fun k => v.ownBlock = some k) w (w.alloc x) := (But.refl _ _).alloc _
  have hsz : (w.alloc x).heap.size = w.heap.size + 1 := by simp
  have h2 : But (fun k => v.ownBlock = some k) w w2 := by
    rcases ha with ⟨g, hg, hge, hbe⟩ | ⟨g, hg, hg', hgr⟩
    · exact hb1.then (But.of_below (fun _ => False) hbe) (fun i _ h => h.elim)
    · exact hb1.then (R := fun k => k = g) ⟨hgr.os, hgr.tape, hgr.output, hgr.size, fun k hk hs => hgr.block k hk (by simpa using hs)⟩ (fun i _ h => by rw [h]; exact hg)
  refine ⟨(h2.mono (fun _ _ h => .inr h)).setCell (.inl (.inl rfl)) _, h2, fun q hq => ?_⟩
  rcases ha with ⟨g, hg, hge, hbe⟩ | ⟨g, hg, hg', hgr⟩
  · obtain rfl : g = q := Option.some.inj (hg.symm.trans hq)
    right; omega
  · obtain rfl : g = q := Option.some.inj (hg'.symm.trans hq)
    exact .inl hg

/-- The row of the lender behind an append onto one of his rows. -/
theorem row_app {w w2 : World} {v : Value} {hb : Nat} {o : Obj} (h : But (fun k => v.ownBlock = some k) w w2) (hr : w.heap[hb]? = some o) (hne : v.ownBlock ≠ some hb) : w2.heap[hb]? = some o := (h.block hb (lt_of_row hr) hne).trans hr

theorem own_ge {w : World} {base : Nat} {e : TypeId} {v : Value} {n : Nat} {xs : List Value} (h : w.ownsRow base e 1 v n xs) : ∀ g, v.ownBlock = some g → base ≤ g := fun g hg => (World.ownsRow.lt h g hg).1
theorem own_type {w : World} {base : Nat} {e : TypeId} {v : Value} {n : Nat} {xs : List Value} (h : w.ownsRow base e 1 v n xs) : ∀ g, v.ownBlock = some g → ∃ cur, w.heap[g]? = some (.cells cur e (0, 0)) := by
  intro g hg
  rcases h.2 with ⟨rfl, _⟩ | ⟨g', cap, cur, rfl, _, hh, _⟩
  · cases hg
  · obtain rfl : g' = g := Option.some.inj hg
    exact ⟨cur, hh⟩

/-- In the midst: the copy lies in its block and in the list of what was lent, not yet in that of what it is a copy of. -/
theorem Lent.pushIn {w0 w w2 : World} {hb : Nat} {C : Value} {N : Int} {vi vw vo vm vi' : Value} {ins : List In} {x : Obj} {y : In} (h : Lent w0 w hb C N vi vw vo vm ins)
    (hy : w.heap[y.1]? = some (.cells (vs (y.2.2 ++ [165, 165])) 5 (0, 0))) (hown : w2.ownsRow w0.heap.size 22 1 vi' (ins.length + 1) (ins.map inVal ++ [inVal y])) (ha : AppTo (w.alloc x) vi w2 vi') :
    let w3 := w2.setCell ⟨hb, 0, none⟩ vi'
    w3.heap[hb]? = some (.cells #[vi', vw, C, .int .i64 N, vo, vm] 28 (0, 0)) ∧ w3.ownsRow w0.heap.size 22 1 vi' (ins.length + 1) (ins.map inVal ++ [inVal y]) ∧
      w3.ownsRow w0.heap.size 22 1 vw ins.length (ins.map (fun x => x.2.1)) ∧ (∀ g, vi'.ownBlock = some g → vw.ownBlock ≠ some g) ∧ (∀ x ∈ ins, w3.heap[x.1]? = some (.cells (vs (x.2.2 ++ [165, 165])) 5 (0, 0))) ∧
      w3.heap[y.1]? = some (.cells (vs (y.2.2 ++ [165, 165])) 5 (0, 0)) ∧ But (fun k => k = hb) w0 w3 := by
  intro w3
  obtain ⟨hbut, hbut2, hpl⟩ := app_but2 (hb := hb) (f := 0) ha
  have hne : vi.ownBlock ≠ some hb := fun e => by have := own_ge h.oi hb e; have := h.hbl; omega
  have hne' : vi'.ownBlock ≠ some hb := fun e => by rcases hpl hb e with h1 | h1; exact hne h1; have := lt_of_row h.row; omega
  have hr2 := row_app hbut2 h.row hne
  have h5 : ∀ g cs, w.heap[g]? = some (.cells cs 5 (0, 0)) → ¬ (g = hb ∨ vi.ownBlock = some g) := by
    rintro g cs hg (rfl | e)
    · have := h.row; rw [hg] at this; simp at this
    · obtain ⟨cur, hc⟩ := own_type h.oi g e
      rw [hg] at hc; simp at hc
  refine ⟨?_, ?_, ?_, ?_, ?_, ?_, ?_⟩
  · have := heap_setCell_same w2 hb 0 _ _ vi' hr2
    simpa using this
  · exact own_but hown ((But.refl (fun k => k = hb) w2).setCell (p := ⟨hb, 0, none⟩) (.inl rfl) _) (fun g hg e => hne' (by rw [hg, e]))
  · refine own_but h.ow hbut (fun g hg e => ?_)
    rcases e with e | e
    · have := own_ge h.ow g hg; have := h.hbl; omega
    · exact h.sep g e hg
  · intro g hg e
    rcases hpl g hg with h1 | h1
    · exact h.sep g h1 e
    · have := own_lt h.ow g e; omega
  · intro z hz
    exact (hbut.block z.1 (lt_of_row (h.lent z hz).1) (h5 _ _ (h.lent z hz).1)).trans (h.lent z hz).1
  · exact (hbut.block y.1 (lt_of_row hy) (h5 _ _ hy)).trans hy
  · exact h.but.then hbut (fun i hi e => by
      rcases e with e | e
      · exact e
      · have := own_ge h.oi i e; omega)

theorem Lent.pushWant {w0 w w2 : World} {hb : Nat} {C : Value} {N : Int} {vi vw vo vm vw' : Value} {ins : List In} {x : Obj} {y : In}
    (row : w.heap[hb]? = some (.cells #[vi, vw, C, .int .i64 N, vo, vm] 28 (0, 0))) (oi : w.ownsRow w0.heap.size 22 1 vi (ins.length + 1) (ins.map inVal ++ [inVal y]))
    (ow : w.ownsRow w0.heap.size 22 1 vw ins.length (ins.map (fun x => x.2.1))) (sep : ∀ g, vi.ownBlock = some g → vw.ownBlock ≠ some g) (hbl : hb < w0.heap.size)
    (lent : ∀ x ∈ ins, w.heap[x.1]? = some (.cells (vs (x.2.2 ++ [165, 165])) 5 (0, 0))) (hy : w.heap[y.1]? = some (.cells (vs (y.2.2 ++ [165, 165])) 5 (0, 0))) (but : But (fun k => k = hb) w0 w)
    (ge : ∀ x ∈ ins, w0.heap.size ≤ x.1 ∧ x.1 < y.1) (hyg : w0.heap.size ≤ y.1) (want : ∀ x ∈ ins, BytesAt w0 x.2.1 x.2.2 ∧ NotIn x.2.1 hb) (hyw : BytesAt w0 y.2.1 y.2.2 ∧ NotIn y.2.1 hb)
    (ord : ins.Pairwise (fun x y => x.1 < y.1)) (hown : w2.ownsRow w0.heap.size 22 1 vw' (ins.length + 1) (ins.map (fun x => x.2.1) ++ [y.2.1])) (ha : AppTo (w.alloc x) vw w2 vw') :
    Lent w0 (w2.setCell ⟨hb, 1, none⟩ vw') hb C N vi vw' vo vm (ins ++ [y]) := by
  obtain ⟨hbut, hbut2, hpl⟩ := app_but2 (hb := hb) (f := 1) ha
  have hne : vw.ownBlock ≠ some hb := fun e => by have := own_ge ow hb e; omega
  have hne' : vw'.ownBlock ≠ some hb := fun e => by rcases hpl hb e with h1 | h1; exact hne h1; have := lt_of_row row; omega
  have hr2 := row_app hbut2 row hne
  have h5 : ∀ g cs, w.heap[g]? = some (.cells cs 5 (0, 0)) → ¬ (g = hb ∨ vw.ownBlock = some g) := by
    rintro g cs hg (rfl | e)
    · rw [hg] at row; simp at row
    · obtain ⟨cur, hc⟩ := own_type ow g e
      rw [hg] at hc; simp at hc
  refine ⟨?_, ?_, ?_, ?_, hbl, ?_, ?_, ?_, ?_⟩
  · have := heap_setCell_same w2 hb 1 _ _ vw' hr2
    simpa using this
  · rw [List.length_append, List.map_append]
    refine own_but oi hbut (fun g hg e => ?_)
    rcases e with e | e
    · have := own_ge oi g hg; omega
    · exact sep g hg e
  · rw [List.length_append, List.map_append]
    exact own_but hown ((But.refl (fun k => k = hb) w2).setCell (p := ⟨hb, 1, none⟩) (.inl rfl) _) (fun g hg e => hne' (by rw [hg, e]))
  · intro g hg e
    rcases hpl g e with h1 | h1
    · exact sep g hg h1
    · have := own_lt oi g hg; omega
  · intro z hz
    rcases List.mem_append.1 hz with hz | hz
    · exact ⟨(hbut.block z.1 (lt_of_row (lent z hz)) (h5 _ _ (lent z hz))).trans (lent z hz), (ge z hz).1⟩
    · simp only [List.mem_singleton] at hz
      subst hz
      exact ⟨(hbut.block z.1 (lt_of_row hy) (h5 _ _ hy)).trans hy, hyg⟩
  · intro z hz
    rcases List.mem_append.1 hz with hz | hz
    · exact want z hz
    · simp only [List.mem_singleton] at hz
      subst hz
      exact hyw
  · rw [List.pairwise_append]
    refine ⟨ord, by simp, fun a ha b hb' => ?_⟩
    simp only [List.mem_singleton] at hb'
    subst hb'
    exact (ge a ha).2
  · exact but.then hbut (fun i hi e => by
      rcases e with e | e
      · exact e
      · have := own_ge ow i e; omega)
end Go.Proofs.Ytbohgkegchmnaaa.ll
