/- The lender's memory (Hands): roles of blocks, appends that tell where the row lies, what was filled. -/
import Derived.Test.YtbohgkegchmnaaaBytesLaw
namespace Go.Proofs.Ytbohgkegchmnaaa.hl
open Go.ChangeShapes Go.WideShapes Go.ChangeAt Go.RowKit Core cw bl

theorem infoS : (Try.prog.info? 22).map (fun i => (i.zero, i.size, i.bytes)) = some (some (.slice none 0 0), 1, 24) := by kernel_rfl

/-- Where a row lies behind an append: in a new block, nothing old having turned; or where it lay. -/
def AppTo (w : World) (v : Value) (w' : World) (v' : Value) : Prop :=
  (∃ g, v'.ownBlock = some g ∧ w.heap.size ≤ g ∧ Below w.heap.size w w') ∨ (∃ g, v.ownBlock = some g ∧ v'.ownBlock = some g ∧ w.grownBy w' (some g))

theorem own_base {w : World} {b b' : Nat} {e : TypeId} {v : Value} {n : Nat} {xs : List Value} (h : w.ownsRow b e 1 v n xs) (hb : b' ≤ b) : w.ownsRow b' e 1 v n xs := by
  refine ⟨h.1, ?_⟩
  rcases h.2 with h0 | ⟨g, cap, cur, rfl, hg, r⟩
  · exact .inl h0
  · exact .inr ⟨g, cap, cur, rfl, by omega, r⟩

/-- append, told where the row lies behind it. -/
theorem appL {w : World} {ops : Array Oper} {rest : List Oper} {o : Oper} {a : Act} {Q : Exit → Act → World → Prop} (hgd : o.guard = none) (s x : Operand) (t e : TypeId) (z : Value) (bytes : Nat)
    (ht : Try.prog.underlying t = some (.slice e)) (hinfo : (Try.prog.info? e).map (fun i => (i.zero, i.size, i.bytes)) = some (some z, 1, bytes)) (hz1 : z.cells.size = 1)
    (ho : o.op = .call { callee := .builtin .append, args := #[s, x], argTypes := #[t, t] })
    (base : Nat) (v : Value) (n : Nat) (xs : List Value) (hs : a.eval s = v) (hown : w.ownsRow base e 1 v n xs)
    (ad : Addr) (m c : Nat) (news : List Value) (hx : a.eval x = .slice (some ad) m c) (hm : 0 < m) (hl : news.length = m) (hnews : ∀ j u, news[j]? = some u → w.cell? (ad.add j) = some u) (h1 : ∀ u ∈ news, u.oneCell' = true)
    (b1 : n + m ≤ maxLen) (b2 : (n + m) * bytes ≤ 140737488355328) (hbase : base ≤ w.heap.size)
    (h : ∀ v' w', w'.ownsRow base e 1 v' (n + m) (xs ++ news) → AppTo w v w' v' → wpList Try.prog ops Q rest (a.put o.dst v') w') : wpList Try.prog ops Q (o :: rest) a w := by
  obtain ⟨i0, hi, hz0, hs1, hby⟩ := info_parts hinfo
  have fin : ∀ v' w', w'.ownsRow w.heap.size e 1 v' (n + m) (xs ++ news) → w.grownBy w' none → wpList Try.prog ops Q rest (a.put o.dst v') w' := by
    intro v' w' r1 r2
    refine h v' w' (own_base r1 hbase) (.inl ?_)
    rcases r1.2 with ⟨rfl, h0⟩ | ⟨g, cap, cur, rfl, hg, _⟩
    · omega
    · exact ⟨g, rfl, hg, (Below.refl _ _).grown r2 (Nat.le_refl _) (by intro k hk; cases hk)⟩
  rcases hown.2 with ⟨rfl, h0⟩ | ⟨g, cap, cur, rfl, hg, hh, hnc, hcm, hcs, htk⟩
  · subst h0
    have hxs : xs = [] := List.eq_nil_of_length_eq_zero (by rw [hown.1, Nat.zero_mul])
    subst hxs
    exact wpList_append_grows w hgd s x t ho e i0 z 1 bytes ht hi hz0 hs1 hby hz1 (by decide) none 0 0 [] hs (fun _ => ⟨rfl, rfl⟩) rfl (by intro b hb; cases hb) ad m c news hx (by omega) hnews h1 (by omega) b1 b2 fin
  · by_cases hf : n + m ≤ cap
    · refine wpList_append_fits w hgd s x t ho base e i0 1 ht hi hs1 g n cap xs hs hown ad m c news hx (by omega) hnews h1 hf ?_
      intro w' r1 r2
      exact h _ w' r1 (.inr ⟨g, rfl, rfl, r2⟩)
    · refine wpList_append_grows w hgd s x t ho e i0 z 1 bytes ht hi hz0 hs1 hby hz1 (by decide) (some ⟨g, 0, none⟩) n cap xs hs (by intro hb; cases hb) hown.1 ?_ ad m c news hx (by omega) hnews h1 (by omega) b1 b2 fin
      intro b hb j u hj
      cases hb
      exact hown.cells (g := g) rfl j u hj

/-- A value's block has this role. -/
def Role (ρ : Nat → Nat) (r : Nat) (v : Value) : Prop := ∀ g, v.ownBlock = some g → ρ g = r

theorem own_but {S : Nat → Prop} {w w' : World} {base : Nat} {e : TypeId} {v : Value} {n : Nat} {xs : List Value} (h : w.ownsRow base e 1 v n xs) (hb : But S w w') (hs : ∀ g, v.ownBlock = some g → ¬ S g) : w'.ownsRow base e 1 v n xs := by
  refine ⟨h.1, ?_⟩
  rcases h.2 with h0 | ⟨g, cap, cur, rfl, hg, hh, r⟩
  · exact .inl h0
  · exact .inr ⟨g, cap, cur, rfl, hg, (hb.block g (lt_of_row hh) (hs g rfl)).trans hh, r⟩

theorem bytes_but {S : Nat → Prop} {w w' : World} {v : Value} {xs : List Int} (h : BytesAt w v xs) (hb : But S w w') (hs : ∀ g, v.ownBlock = some g → ¬ S g) : BytesAt w' v xs :=
  h.kept hb (fun b off n c e => hs b (by rw [e]; rfl))

theorem own_lt {w : World} {base : Nat} {e : TypeId} {v : Value} {n : Nat} {xs : List Value} (h : w.ownsRow base e 1 v n xs) : ∀ g, v.ownBlock = some g → g < w.heap.size := fun g hg => (World.ownsRow.lt h g hg).2

/-- What was kept: the list that was told, its length, its mark. -/
abbrev Out := Value × Nat × Int
def Filled (w : World) (o : Out) : Prop := BytesAt w o.1 (List.replicate o.2.1 o.2.2)

/-- Roles, with one for all new blocks. -/
def extR (ρ : Nat → Nat) (n r : Nat) : Nat → Nat := fun k => if k < n then ρ k else r
theorem ext_lt {ρ : Nat → Nat} {n r k : Nat} (h : k < n) : extR ρ n r k = ρ k := if_pos h
theorem ext_ge {ρ : Nat → Nat} {n r k : Nat} (h : n ≤ k) : extR ρ n r k = r := if_neg (by omega)

/-- The lender in block hb: what he has lent (A, B, C), how many were told (N), the told ones (os) and their marks (ms), and how these are filled (outs). -/
structure HP (ρ : Nat → Nat) (w : World) (hb : Nat) (A B C : Value) (N : Int) (vo vm : Value) (os : List Value) (ms : List Int) (outs : List Out) : Prop where
  row : w.heap[hb]? = some (.cells #[A, B, C, .int .i64 N, vo, vm] 28 (0, 0))
  oo : w.ownsRow 0 22 1 vo os.length os
  om : w.ownsRow 0 5 1 vm ms.length (ms.map (Value.int .u8))
  rb : ρ hb = 1
  ro : Role ρ 2 vo
  rm : Role ρ 3 vm
  fo : ∀ o ∈ outs, Filled w o ∧ ∀ g, o.1.ownBlock = some g → g < w.heap.size ∧ 4 ≤ ρ g

theorem HP.grow {ρ : Nat → Nat} {w : World} {hb : Nat} {A B C : Value} {N : Int} {vo vm : Value} {os : List Value} {ms : List Int} {outs : List Out} (h : HP ρ w hb A B C N vo vm os ms outs) (r : Nat) : HP (extR ρ w.heap.size r) w hb A B C N vo vm os ms outs :=
  ⟨h.row, h.oo, h.om, by rw [ext_lt (lt_of_row h.row)]; exact h.rb, fun g hg => by rw [ext_lt (own_lt h.oo g hg)]; exact h.ro g hg, fun g hg => by rw [ext_lt (own_lt h.om g hg)]; exact h.rm g hg,
    fun o ho => ⟨(h.fo o ho).1, fun g hg => ⟨((h.fo o ho).2 g hg).1, by rw [ext_lt ((h.fo o ho).2 g hg).1]; exact ((h.fo o ho).2 g hg).2⟩⟩⟩

theorem HP.but {ρ : Nat → Nat} {S : Nat → Prop} {w w' : World} {hb : Nat} {A B C : Value} {N : Int} {vo vm : Value} {os : List Value} {ms : List Int} {outs : List Out} (h : HP ρ w hb A B C N vo vm os ms outs) (hw : But S w w')
    (h1 : ∀ k, k < w.heap.size → S k → ρ k = 0 ∨ 4 ≤ ρ k) (h2 : ∀ o ∈ outs, ∀ g, o.1.ownBlock = some g → ¬ S g) : HP ρ w' hb A B C N vo vm os ms outs :=
  ⟨(hw.block hb (lt_of_row h.row) (fun hs => by have := h1 hb (lt_of_row h.row) hs; have := h.rb; omega)).trans h.row,
    own_but h.oo hw (fun g hg hs => by have := h1 g (own_lt h.oo g hg) hs; have := h.ro g hg; omega),
    own_but h.om hw (fun g hg hs => by have := h1 g (own_lt h.om g hg) hs; have := h.rm g hg; omega), h.rb, h.ro, h.rm,
    fun o ho => ⟨bytes_but (h.fo o ho).1 hw (h2 o ho), fun g hg => ⟨Nat.lt_of_lt_of_le ((h.fo o ho).2 g hg).1 hw.size, ((h.fo o ho).2 g hg).2⟩⟩⟩

/-- Behind an append onto a row of role r, laid anew in the lender's field. -/
theorem app_but {ρ : Nat → Nat} {w w1 w2 : World} {v v' : Value} {hb f r : Nat} {x : Obj} (hw1 : w1 = w.alloc x) (hr : Role ρ r v) (ha : AppTo w1 v w2 v') (hrb : ρ hb = 1) :
    But (fun k => ρ k = 1 ∨ ρ k = r) w (w2.setCell ⟨hb, f, none⟩ v') ∧ (∀ g, v'.ownBlock = some g → g < w.heap.size → ρ g = r) := by
  subst hw1
  have hb1 : But (fun k => ρ k = 1 ∨ ρ k = r) w (w.alloc x) := (But.refl _ _).alloc _
  have hsz : (w.alloc x).heap.size = w.heap.size + 1 := by simp
  rcases ha with ⟨g, hg, hge, hbe⟩ | ⟨g, hg, hg', hgr⟩
  · refine ⟨(hb1.then (But.of_below _ hbe) (fun i _ h => h)).setCell (.inl (.inl hrb)) _, fun q hq hlt => ?_⟩
    rw [hg] at hq
    cases hq
    omega
  · refine ⟨(hb1.then (R := fun k => k = g) ⟨hgr.os, hgr.tape, hgr.output, hgr.size, fun k hk hs => hgr.block k hk (by simpa using hs)⟩ (fun i _ h => .inr (by rw [h]; exact hr g hg))).setCell (.inl (.inl hrb)) _, fun q hq hlt => ?_⟩
    rw [hg'] at hq
    cases hq
    exact hr g hg

theorem HP.pushOut {ρ : Nat → Nat} {w w2 : World} {hb : Nat} {A B C : Value} {N : Int} {vo vm vo' : Value} {os : List Value} {ms : List Int} {outs : List Out} {x : Obj} {l : Value} (h : HP ρ w hb A B C N vo vm os ms outs)
    (hown : w2.ownsRow 0 22 1 vo' (os.length + 1) (os ++ [l])) (ha : AppTo (w.alloc x) vo w2 vo') :
    HP (extR ρ w.heap.size 2) (w2.setCell ⟨hb, 4, none⟩ vo') hb A B C N vo' vm (os ++ [l]) ms outs ∧ But (fun k => ρ k = 1 ∨ ρ k = 2) w (w2.setCell ⟨hb, 4, none⟩ vo') := by
  have hbl := lt_of_row h.row
  obtain ⟨hbut, hrole⟩ := app_but (f := 4) rfl h.ro ha h.rb
  have hne : vo'.ownBlock ≠ some hb := fun e => by have := hrole hb e hbl; have := h.rb; omega
  have hrow2 : w2.heap[hb]? = some (.cells #[A, B, C, .int .i64 N, vo, vm] 28 (0, 0)) := by
    have h1 : (w.alloc x).heap[hb]? = some (.cells #[A, B, C, .int .i64 N, vo, vm] 28 (0, 0)) := (Below.heap_alloc _ _ _ hbl).trans h.row
    rcases ha with ⟨g, _, _, hbe⟩ | ⟨g, hg, _, hgr⟩
    · exact (hbe.block hb (by simp; omega)).trans h1
    · exact (hgr.block hb (by simp; omega) (fun e => by cases e; have := h.ro hb hg; have := h.rb; omega)).trans h1
  refine ⟨⟨?_, ?_, ?_, ?_, ?_, ?_, ?_⟩, hbut⟩
  · have := heap_setCell_same w2 hb 4 _ _ vo' hrow2
    simpa using this
  · rw [List.length_append]
    exact own_but hown ((But.refl (fun k => k = hb) w2).setCell (.inl rfl) _) (fun g hg e => hne (by rw [hg, e]))
  · exact own_but h.om hbut (fun g hg hs => by have := h.rm g hg; omega)
  · rw [ext_lt hbl]; exact h.rb
  · intro g hg
    by_cases hlt : g < w.heap.size
    · rw [ext_lt hlt]; exact hrole g hg hlt
    · rw [ext_ge (by omega)]
  · intro g hg
    rw [ext_lt (own_lt h.om g hg)]; exact h.rm g hg
  · intro o ho
    refine ⟨bytes_but (h.fo o ho).1 hbut (fun g hg hs => by have := ((h.fo o ho).2 g hg).2; omega), fun g hg => ⟨Nat.lt_of_lt_of_le ((h.fo o ho).2 g hg).1 hbut.size, ?_⟩⟩
    rw [ext_lt ((h.fo o ho).2 g hg).1]; exact ((h.fo o ho).2 g hg).2

theorem HP.pushMark {ρ : Nat → Nat} {w w2 : World} {hb : Nat} {A B C : Value} {N : Int} {vo vm vm' : Value} {os : List Value} {ms : List Int} {outs : List Out} {x : Obj} {m : Int} (h : HP ρ w hb A B C N vo vm os ms outs)
    (hown : w2.ownsRow 0 5 1 vm' (ms.length + 1) (ms.map (Value.int .u8) ++ [.int .u8 m])) (ha : AppTo (w.alloc x) vm w2 vm') :
    HP (extR ρ w.heap.size 3) (w2.setCell ⟨hb, 5, none⟩ vm') hb A B C N vo vm' os (ms ++ [m]) outs ∧ But (fun k => ρ k = 1 ∨ ρ k = 3) w (w2.setCell ⟨hb, 5, none⟩ vm') := by
  have hbl := lt_of_row h.row
  obtain ⟨hbut, hrole⟩ := app_but (f := 5) rfl h.rm ha h.rb
  have hne : vm'.ownBlock ≠ some hb := fun e => by have := hrole hb e hbl; have := h.rb; omega
  have hrow2 : w2.heap[hb]? = some (.cells #[A, B, C, .int .i64 N, vo, vm] 28 (0, 0)) := by
    have h1 : (w.alloc x).heap[hb]? = some (.cells #[A, B, C, .int .i64 N, vo, vm] 28 (0, 0)) := (Below.heap_alloc _ _ _ hbl).trans h.row
    rcases ha with ⟨g, _, _, hbe⟩ | ⟨g, hg, _, hgr⟩
    · exact (hbe.block hb (by simp; omega)).trans h1
    · exact (hgr.block hb (by simp; omega) (fun e => by cases e; have := h.rm hb hg; have := h.rb; omega)).trans h1
  refine ⟨⟨?_, ?_, ?_, ?_, ?_, ?_, ?_⟩, hbut⟩
  · have := heap_setCell_same w2 hb 5 _ _ vm' hrow2
    simpa using this
  · exact own_but h.oo hbut (fun g hg hs => by have := h.ro g hg; omega)
  · rw [List.length_append, List.map_append]
    exact own_but hown ((But.refl (fun k => k = hb) w2).setCell (.inl rfl) _) (fun g hg e => hne (by rw [hg, e]))
  · rw [ext_lt hbl]; exact h.rb
  · intro g hg
    rw [ext_lt (own_lt h.oo g hg)]; exact h.ro g hg
  · intro g hg
    by_cases hlt : g < w.heap.size
    · rw [ext_lt hlt]; exact hrole g hg hlt
    · rw [ext_ge (by omega)]
  · intro o ho
    refine ⟨bytes_but (h.fo o ho).1 hbut (fun g hg hs => by have := ((h.fo o ho).2 g hg).2; omega), fun g hg => ⟨Nat.lt_of_lt_of_le ((h.fo o ho).2 g hg).1 hbut.size, ?_⟩⟩
    rw [ext_lt ((h.fo o ho).2 g hg).1]; exact ((h.fo o ho).2 g hg).2

theorem u8s_rep (n : Nat) {m : Int} (h : 0 ≤ m ∧ m ≤ 255) : u8s (List.replicate n m) := by
  intro x hx
  rw [List.mem_replicate] at hx
  rw [hx.2]; exact h
theorem rep_get {n j : Nat} {m : Int} (h : j < n) : (List.replicate n m)[j]?.getD 0 = m := by simp [h]

/-- The list at hand: filled with m, of role 5; full, or a row of its own. -/
structure LS (ρ : Nat → Nat) (w : World) (l : Value) (ln : Nat) (m : Int) : Prop where
  by_ : BytesAt w l (List.replicate ln m)
  sh : (∃ a, l = .slice a ln ln) ∨ OwnB w 0 l (List.replicate ln m)
  ro : ∀ g, l.ownBlock = some g → g < w.heap.size ∧ ρ g = 5
  z : ∀ g, l.ownBlock = some g → ∃ c, l = .slice (some ⟨g, 0, none⟩) ln c

/-- What was told out of it in this call. -/
def NW (ρ : Nat → Nat) (outs : List Out) (ln : Nat) (m : Int) : Prop := ∀ o ∈ outs, ∀ g, o.1.ownBlock = some g → ρ g = 5 → o.2.2 = m ∧ o.2.1 ≤ ln ∧ ∃ c, o.1 = .slice (some ⟨g, 0, none⟩) o.2.1 c

/-- append(l, m), the byte m lying at the head of the newest block. -/
theorem appOne {ρ : Nat → Nat} {w : World} {ops : Array Oper} {rest : List Oper} {o : Oper} {a : Act} {Q : Exit → Act → World → Prop} (hgd : o.guard = none) (s x : Operand)
    (ho : o.op = .call { callee := .builtin .append, args := #[s, x], argTypes := #[22, 22] })
    (l : Value) (ln : Nat) (m : Int) (hs : a.eval s = l) (h : LS ρ w l ln m) (hx : a.eval x = .slice (some ⟨w.heap.size, 0, none⟩) 1 1) (hln : ln ≤ 1000000)
    (hK : ∀ v' w', OwnB w' 0 v' (List.replicate (ln + 1) m) → AppTo (w.alloc (.cells #[.int .u8 m] 5)) l w' v' → wpList Try.prog ops Q rest (a.put o.dst v') w') : wpList Try.prog ops Q (o :: rest) a (w.alloc (.cells #[.int .u8 m] 5)) := by
  have hnews : ∀ j u, ([Value.int .u8 m] : List Value)[j]? = some u → (w.alloc (.cells #[.int .u8 m] 5)).cell? ((⟨w.heap.size, 0, none⟩ : Addr).add j) = some u := by
    intro j u hj
    match j, hj with
    | 0, hj => simp at hj; subst hj; simp [Addr.add]
  have h1 : ∀ u ∈ ([Value.int .u8 m] : List Value), u.oneCell' = true := by intro u hu; simp at hu; subst hu; rfl
  have hrep : (List.replicate ln m).map (Value.int .u8) ++ [Value.int .u8 m] = (List.replicate (ln + 1) m).map (Value.int .u8) := by rw [List.replicate_succ', List.map_append]; rfl
  rcases h.sh with ⟨a', rfl⟩ | hown
  · obtain ⟨i0, hi, hz0, hs1, hby⟩ := info_parts info8
    refine wpList_append_grows _ hgd s x 22 ho 5 i0 (.int .u8 0) 1 1 Try.underlying22 hi hz0 hs1 hby rfl (by decide) a' ln ln ((List.replicate ln m).map (Value.int .u8)) hs ?_ (by simp) ?_ ⟨w.heap.size, 0, none⟩ 1 1 [.int .u8 m] hx rfl hnews h1 (by omega) (by unfold maxLen; omega) (by omega) ?_
    · intro e
      subst e
      obtain ⟨_, ⟨h0, a2, c2, e2, _⟩ | ⟨b, off, c2, e2, _, _⟩⟩ := h.by_
      · injection e2 with e3 e4 e5
        exact ⟨e4, e4⟩
      · injection e2 with e3 e4 e5
        cases e3
    · intro b hb j u hj
      subst hb
      have hjl : j < ln := by
        rcases Nat.lt_or_ge j ln with h | h
        · exact h
        · rw [List.getElem?_eq_none (by simpa using h)] at hj; cases hj
      obtain ⟨_, ⟨h0, a2, c2, e2, _⟩ | ⟨b2, off, c2, e2, hlt, hc⟩⟩ := h.by_
      · injection e2 with e3 e4 e5
        omega
      · injection e2 with e3 e4 e5
        cases e3
        rw [addr_plain, World.cell?_alloc_lt _ _ _ hlt, hc j (by simpa using hjl), rep_get hjl, ← hj]
        simp [hjl]
    · intro v' w' r1 r2
      rw [hrep] at r1
      have r1' : OwnB w' (w.alloc (.cells #[.int .u8 m] 5)).heap.size v' (List.replicate (ln + 1) m) := by unfold OwnB; rw [List.length_replicate]; exact r1
      refine hK v' w' (own_base r1' (Nat.zero_le _)) (.inl ?_)
      rcases r1.2 with ⟨rfl, h0⟩ | ⟨g, cap, cur, rfl, hg, _⟩
      · omega
      · exact ⟨g, rfl, hg, (Below.refl _ _).grown r2 (Nat.le_refl _) (by intro k hk; cases hk)⟩
  · have hown' : w.ownsRow 0 5 1 l ln ((List.replicate ln m).map (Value.int .u8)) := by have := hown; unfold OwnB at this; rwa [List.length_replicate] at this
    refine appL hgd s x 22 5 (.int .u8 0) 1 Try.underlying22 info8 rfl ho 0 l ln _ hs (hown'.alloc _) ⟨w.heap.size, 0, none⟩ 1 1 [.int .u8 m] hx (by omega) rfl hnews h1 (by unfold maxLen; omega) (by omega) (Nat.zero_le _) ?_
    intro v' w' r1 r2
    rw [hrep] at r1
    exact hK v' w' (by unfold OwnB; rw [List.length_replicate]; exact r1) r2

theorem HP.pushL {ρ : Nat → Nat} {w w' : World} {hb : Nat} {A B C : Value} {N : Int} {vo vm : Value} {os : List Value} {ms : List Int} {outs : List Out} {x : Obj} {l v' : Value} {ln : Nat} {m : Int} (h : HP ρ w hb A B C N vo vm os ms outs)
    (hls : LS ρ w l ln m) (hn : NW ρ outs ln m) (hm : 0 ≤ m ∧ m ≤ 255) (hown : OwnB w' 0 v' (List.replicate (ln + 1) m)) (ha : AppTo (w.alloc x) l w' v') :
    HP (extR ρ w.heap.size 5) w' hb A B C N vo vm os ms outs ∧ LS (extR ρ w.heap.size 5) w' v' (ln + 1) m ∧ NW (extR ρ w.heap.size 5) outs (ln + 1) m ∧ But (fun k => ρ k = 5) w w' := by
  have hsz : (w.alloc x).heap.size = w.heap.size + 1 := by simp
  have hb1 : But (fun k => ρ k = 5) w (w.alloc x) := (But.refl _ _).alloc _
  have hshape : ∃ g c, v' = .slice (some ⟨g, 0, none⟩) (ln + 1) c ∧ g < w'.heap.size := by
    rcases hown.2 with ⟨rfl, h0⟩ | ⟨g, cap, cur, rfl, hg, hh, _⟩
    · simp at h0
    · exact ⟨g, cap, by rw [List.length_replicate], lt_of_row hh⟩
  obtain ⟨g', c', rfl, hg'l⟩ := hshape
  have hbut : But (fun k => ρ k = 5) w w' := by
    rcases ha with ⟨g, hg, hge, hbe⟩ | ⟨g, hg, hg', hgr⟩
    · exact hb1.then (But.of_below (fun _ => False) hbe) (fun i _ h => h.elim)
    · exact hb1.then (R := fun k => k = g) ⟨hgr.os, hgr.tape, hgr.output, hgr.size, fun k hk hs => hgr.block k hk (by simpa using hs)⟩ (fun i _ h => by rw [h]; exact (hls.ro g hg).2)
  have hB' := hown.bytes (u8s_rep _ hm)
  have hnew : g' < w.heap.size → l.ownBlock = some g' := by
    intro hlt
    rcases ha with ⟨g, hg, hge, _⟩ | ⟨g, hg, hg', _⟩
    · have e : g' = g := Option.some.inj hg
      omega
    · have e : g' = g := Option.some.inj hg'
      rw [e]; exact hg
  have hfo : ∀ o ∈ outs, Filled w' o := by
    intro o ho
    by_cases h5 : ∃ g, o.1.ownBlock = some g ∧ ρ g = 5
    · obtain ⟨g, hg, hg5⟩ := h5
      obtain ⟨hm1, hn1, c, ho1⟩ := hn o ho g hg hg5
      by_cases hgg : g = g' ∧ l.ownBlock = some g
      · obtain ⟨rfl, _⟩ := hgg
        unfold Filled
        rw [hm1, ho1]
        obtain ⟨_, ⟨h0, _⟩ | ⟨b, off, cc, e, hlt, hc⟩⟩ := hB'
        · simp at h0
        · injection e with e1 e2 e3
          cases e1
          refine ⟨u8s_rep _ hm, .inr ⟨g, 0, c, by rw [List.length_replicate], hlt, fun j hj => ?_⟩⟩
          rw [List.length_replicate] at hj
          rw [hc j (by rw [List.length_replicate]; omega), rep_get (by omega), rep_get hj]
      · have hk : w'.heap[g]? = w.heap[g]? := by
          have hgl := ((h.fo o ho).2 g hg).1
          rw [← Below.heap_alloc w x g hgl]
          rcases ha with ⟨q, hq, hge, hbe⟩ | ⟨q, hq, hq', hgr⟩
          · exact hbe.block g (by omega)
          · refine hgr.block g (by omega) (fun e => hgg ?_)
            have e1 : g = q := Option.some.inj e
            have e2 : g' = q := Option.some.inj hq'
            exact ⟨by omega, by rw [e1]; exact hq⟩
        refine (h.fo o ho).1.kept (S := fun k => k ≠ g) ⟨hbut.os, hbut.tape, hbut.output, hbut.size, fun k _ hs => ?_⟩ (fun b off n cc e hs => ?_)
        · have : k = g := Classical.byContradiction hs
          subst this; exact hk
        · rw [ho1] at e
          injection e with e1 _ _
          injection e1 with e1
          injection e1 with e1 _ _
          exact hs e1.symm
    · exact bytes_but (h.fo o ho).1 hbut (fun g hg hs => h5 ⟨g, hg, hs⟩)
  refine ⟨⟨?_, ?_, ?_, ?_, ?_, ?_, ?_⟩, ⟨hB', .inr hown, ?_, ?_⟩, ?_, hbut⟩
  · exact (hbut.block hb (lt_of_row h.row) (by have := h.rb; omega)).trans h.row
  · exact own_but h.oo hbut (fun g hg hs => by have := h.ro g hg; omega)
  · exact own_but h.om hbut (fun g hg hs => by have := h.rm g hg; omega)
  · rw [ext_lt (lt_of_row h.row)]; exact h.rb
  · intro g hg; rw [ext_lt (own_lt h.oo g hg)]; exact h.ro g hg
  · intro g hg; rw [ext_lt (own_lt h.om g hg)]; exact h.rm g hg
  · intro o ho
    refine ⟨hfo o ho, fun g hg => ⟨Nat.lt_of_lt_of_le ((h.fo o ho).2 g hg).1 hbut.size, ?_⟩⟩
    rw [ext_lt ((h.fo o ho).2 g hg).1]; exact ((h.fo o ho).2 g hg).2
  · intro g hg
    obtain rfl : g' = g := Option.some.inj hg
    refine ⟨hg'l, ?_⟩
    by_cases hlt : g' < w.heap.size
    · rw [ext_lt hlt]; exact (hls.ro g' (hnew hlt)).2
    · rw [ext_ge (by omega)]
  · intro g hg
    obtain rfl : g' = g := Option.some.inj hg
    exact ⟨c', rfl⟩
  · intro o ho g hg h5
    rw [ext_lt ((h.fo o ho).2 g hg).1] at h5
    obtain ⟨a, b, c⟩ := hn o ho g hg h5
    exact ⟨a, by omega, c⟩
end Go.Proofs.Ytbohgkegchmnaaa.hl
