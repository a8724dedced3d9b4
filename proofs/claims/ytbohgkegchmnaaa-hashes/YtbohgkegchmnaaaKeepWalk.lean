/- The walk of the lender's keep. -/
import Derived.Test.YtbohgkegchmnaaaHandsLaw
import Derived.Deep.QuietTactic
import Derived.BigQuiet
import Derived.Deep.DeepCutAuto
namespace Go.Proofs.Ytbohgkegchmnaaa.kw
open Go.ChangeShapes Go.WideShapes Go.ChangeAt Go.RowKit Core cw bl hl

theorem cells6 {w : World} {g : Nat} {t : TypeId} {a0 a1 a2 a3 a4 a5 : Value} (h : w.heap[g]? = some (.cells #[a0, a1, a2, a3, a4, a5] t (0, 0))) :
    w.cell? ⟨g, 0, none⟩ = some a0 ∧ w.cell? ⟨g, 1, none⟩ = some a1 ∧ w.cell? ⟨g, 2, none⟩ = some a2 ∧ w.cell? ⟨g, 3, none⟩ = some a3 ∧ w.cell? ⟨g, 4, none⟩ = some a4 ∧ w.cell? ⟨g, 5, none⟩ = some a5 ∧ ∀ j, w.frozen? ⟨g, j, none⟩ = false :=
  ⟨cell_of_row w g 0 _ _ _ h, cell_of_row w g 1 _ _ _ h, cell_of_row w g 2 _ _ _ h, cell_of_row w g 3 _ _ _ h, cell_of_row w g 4 _ _ _ h, cell_of_row w g 5 _ _ _ h, fun j => frozen_of_row w g j _ _ h⟩

theorem fill_step (xs : List Int) (m : Int) (k : Nat) (h : k < xs.length) : (vs (List.replicate k m ++ xs.drop k)).setIfInBounds k (.int .u8 m) = vs (List.replicate (k + 1) m ++ xs.drop (k + 1)) := by
  have h1 := vs_set (List.replicate k m) (xs.drop (k + 1)) xs[k] m
  rw [List.length_replicate] at h1
  rw [List.drop_eq_getElem_cons h, h1, List.replicate_succ', List.append_assoc]
  rfl

/-- The list that was told: nil, or a full row of its own, of role 5. -/
structure LR (ρ : Nat → Nat) (w : World) (ao : Option Addr) (n g : Nat) (xs : List Int) (T : TypeId) : Prop where
  len : xs.length = n
  nil0 : ao = .none → n = 0
  row : ∀ a, ao = some a → a = ⟨g, 0, .none⟩ ∧ w.heap[g]? = some (.cells (vs xs) T (0, 0)) ∧ ρ g = 5

theorem ls_of {ρ : Nat → Nat} {w wr : World} {ao : Option Addr} {n g : Nat} {xs : List Int} {T : TypeId} {m : Int} (h : LR ρ w ao n g xs T) (hm : 0 ≤ m ∧ m ≤ 255) (hsz : w.heap.size ≤ wr.heap.size)
    (hrow : 0 < n → wr.heap[g]? = some (.cells (vs (List.replicate n m)) T (0, 0))) : LS ρ wr (.slice ao n n) n m := by
  refine ⟨⟨u8s_rep _ hm, ?_⟩, .inl ⟨ao, rfl⟩, ?_, ?_⟩
  · by_cases h0 : n = 0
    · subst h0; exact .inl ⟨rfl, ao, 0, rfl, fun _ => rfl⟩
    · cases ao with
      | none => exact absurd (h.nil0 rfl) h0
      | some a =>
        obtain ⟨rfl, _, _⟩ := h.row a rfl
        have hr := hrow (by omega)
        refine .inr ⟨g, 0, n, by rw [List.length_replicate], lt_of_row hr, fun j hj => ?_⟩
        rw [cell_of_row wr g _ _ _ _ hr, Nat.zero_add, vs_get _ _ hj]
  · intro q hq
    cases ao with
    | none => cases hq
    | some a =>
      obtain ⟨rfl, h1, h2⟩ := h.row a rfl
      obtain rfl : g = q := Option.some.inj hq
      exact ⟨Nat.lt_of_lt_of_le (lt_of_row h1) hsz, h2⟩
  · intro q hq
    cases ao with
    | none => cases hq
    | some a =>
      obtain ⟨rfl, h1, h2⟩ := h.row a rfl
      obtain rfl : g = q := Option.some.inj hq
      exact ⟨n, rfl⟩

theorem HP.setN {ρ : Nat → Nat} {w : World} {hb : Nat} {A B C : Value} {N : Int} {vo vm : Value} {os : List Value} {ms : List Int} {outs : List Out} (h : HP ρ w hb A B C N vo vm os ms outs) (N' : Int) :
    HP ρ (w.setCell ⟨hb, 3, none⟩ (.int .i64 N')) hb A B C N' vo vm os ms outs := by
  have hbut : But (fun k => k = hb) w (w.setCell ⟨hb, 3, none⟩ (.int .i64 N')) := (But.refl (fun k => k = hb) w).setCell (p := ⟨hb, 3, none⟩) (.inl rfl) _
  refine ⟨?_, ?_, ?_, h.rb, h.ro, h.rm, ?_⟩
  · have := heap_setCell_same w hb 3 _ _ (.int .i64 N') h.row
    simpa using this
  · exact own_but h.oo hbut (fun g hg hs => by have := h.ro g hg; have := h.rb; subst hs; omega)
  · exact own_but h.om hbut (fun g hg hs => by have := h.rm g hg; have := h.rb; subst hs; omega)
  · intro o ho
    refine ⟨bytes_but (h.fo o ho).1 hbut (fun g hg hs => by have := ((h.fo o ho).2 g hg).2; have := h.rb; subst hs; omega), fun g hg => ⟨Nat.lt_of_lt_of_le ((h.fo o ho).2 g hg).1 hbut.size, ((h.fo o ho).2 g hg).2⟩⟩

theorem HP.rowApp {ρ : Nat → Nat} {w w2 : World} {hb r : Nat} {A B C : Value} {N : Int} {vo vm v v' : Value} {os : List Value} {ms : List Int} {outs : List Out} {x : Obj} (h : HP ρ w hb A B C N vo vm os ms outs) (hr : Role ρ r v) (h1 : r ≠ 1) (ha : AppTo (w.alloc x) v w2 v') :
    w2.heap[hb]? = some (.cells #[A, B, C, .int .i64 N, vo, vm] 28 (0, 0)) := by
  have hbl := lt_of_row h.row
  have h2 : (w.alloc x).heap[hb]? = some (.cells #[A, B, C, .int .i64 N, vo, vm] 28 (0, 0)) := (Below.heap_alloc _ _ _ hbl).trans h.row
  rcases ha with ⟨g, _, _, hbe⟩ | ⟨g, hg, _, hgr⟩
  · exact (hbe.block hb (by simp; omega)).trans h2
  · exact (hgr.block hb (by simp; omega) (fun e => by cases e; have := hr hb hg; have := h.rb; omega)).trans h2

/-- None is long. -/
def Sml (outs : List Out) : Prop := ∀ o ∈ outs, o.2.1 ≤ 1000000

/-- In the loop that tells: q of four are told. -/
def K2 (ρ : Nat → Nat) (w : World) (hb : Nat) (A B C : Value) (N : Int) (p n : Nat) (m : Int) (q : Nat) (l : Value) (wr : World) : Prop :=
  ∃ ρ' vo vm, ∃ outs : List Out, HP ρ' wr hb A B C N vo vm (outs.map (fun o => o.1)) (outs.map (fun o => o.2.2)) outs ∧ LS ρ' wr l (n + q) m ∧ NW ρ' outs (n + q) m ∧ outs.length = p + q ∧ (∀ j, j < w.heap.size → ρ' j = ρ j) ∧
    (∀ o ∈ outs, ∀ g, o.1.ownBlock = some g → ρ' g = 4 ∨ ρ' g = 5) ∧ Sml outs ∧ But (fun j => ρ j = 1 ∨ ρ j = 2 ∨ ρ j = 3 ∨ ρ j = 5) w wr

theorem own_shape {w : World} {base : Nat} {e : TypeId} {v : Value} {n : Nat} {xs : List Value} (h : w.ownsRow base e 1 v n xs) : ∃ a c, v = .slice a n c := by
  rcases h.2 with ⟨rfl, h0⟩ | ⟨g, cap, cur, rfl, _⟩
  · exact ⟨none, 0, by rw [h0]⟩
  · exact ⟨_, cap, rfl⟩
theorem own_some {w : World} {e : TypeId} {v : Value} {n : Nat} {xs : List Value} (h : w.ownsRow 0 e 1 v n xs) (h0 : 0 < n) : ∃ g c, v = .slice (some ⟨g, 0, none⟩) n c ∧ ∀ j, j < n → w.cell? ⟨g, j, none⟩ = xs[j]? := by
  rcases h.2 with ⟨rfl, h1⟩ | ⟨g, cap, cur, rfl, _⟩
  · omega
  · exact ⟨g, cap, rfl, fun j hj => h.cellAt j (by omega)⟩
def dOut : Out := (.nilIface, 0, 0)
theorem map_at {β : Type} (f : Out → β) (l : List Out) (j : Nat) (h : j < l.length) : (l.map f)[j]? = some (f (l[j]?.getD dOut)) := by
  rw [List.getElem?_map, List.getElem?_eq_getElem h]; rfl
theorem mem_getD (l : List Out) (j : Nat) (h : j < l.length) : l[j]?.getD dOut ∈ l := by
  rw [List.getElem?_eq_getElem h]; exact List.getElem_mem h
theorem filled_at {w : World} {oa : Option Addr} {on oc : Nat} {om : Int} (h : Filled w (.slice oa on oc, on, om)) : ∀ q, q < on → ∃ b off, oa = some ⟨b, off, none⟩ ∧ w.cell? ⟨b, off + q, none⟩ = some (.int .u8 om) := by
  intro q hq
  obtain ⟨_, ⟨h0, _⟩ | ⟨b, off, cc, e, hlt, hc⟩⟩ := h
  · have h1 := congrArg List.length h0
    simp at h1
    omega
  · injection e with e1 e2 e3
    exact ⟨b, off, e1, by rw [hc q (by rw [List.length_replicate]; exact hq), rep_get hq]⟩
theorem one_cell (w : World) (l : Value) (t : TypeId) : ∀ j u, ([l] : List Value)[j]? = some u → (w.alloc (.cells #[l] t)).cell? ((⟨w.heap.size, 0, none⟩ : Addr).add j) = some u := by
  intro j u hj
  match j, hj with
  | 0, hj => simp at hj; subst hj; simp [Addr.add]

theorem LS.but {ρ ρ' : Nat → Nat} {S : Nat → Prop} {w w' : World} {l : Value} {ln : Nat} {m : Int} (h : LS ρ w l ln m) (hb : But S w w') (hs : ∀ g, ρ g = 5 → ¬ S g) (hr : ∀ g, g < w.heap.size → ρ' g = ρ g) : LS ρ' w' l ln m :=
  ⟨bytes_but h.by_ hb (fun g hg => hs g (h.ro g hg).2), h.sh.imp id (fun ho => own_but ho hb (fun g hg => hs g (h.ro g hg).2)), fun g hg => ⟨Nat.lt_of_lt_of_le (h.ro g hg).1 hb.size, by rw [hr g (h.ro g hg).1]; exact (h.ro g hg).2⟩, h.z⟩

theorem NW.role {ρ ρ' : Nat → Nat} {outs : List Out} {ln : Nat} {m : Int} {w : World} (h : NW ρ outs ln m) (hf : ∀ o ∈ outs, ∀ g, o.1.ownBlock = some g → g < w.heap.size) (hr : ∀ g, g < w.heap.size → ρ' g = ρ g) : NW ρ' outs ln m :=
  fun o ho g hg h5 => h o ho g hg (by rw [← hr g (hf o ho g hg)]; exact h5)

theorem HP.more {ρ : Nat → Nat} {w : World} {hb : Nat} {A B C : Value} {N : Int} {vo vm : Value} {os : List Value} {ms : List Int} {outs : List Out} (h : HP ρ w hb A B C N vo vm os ms outs) {l : Value} {ln : Nat} {m : Int} (hls : LS ρ w l ln m) : HP ρ w hb A B C N vo vm os ms (outs ++ [(l, ln, m)]) :=
  ⟨h.row, h.oo, h.om, h.rb, h.ro, h.rm, fun o ho => by
    rcases List.mem_append.1 ho with ho | ho
    · exact h.fo o ho
    · simp only [List.mem_singleton] at ho
      subst ho
      exact ⟨hls.by_, fun g hg => ⟨(hls.ro g hg).1, by have := (hls.ro g hg).2; omega⟩⟩⟩

/-- The same memory; only draws between. -/
structure Sm (w w' : World) : Prop where
  heap : w'.heap = w.heap
  os : w'.os = w.os
  tape : w'.tape = w.tape
  output : w'.output = w.output
theorem Sm.refl (w : World) : Sm w w := ⟨rfl, rfl, rfl, rfl⟩
theorem Sm.drewN {w w' : World} (h : Sm w w') (n : Nat) : Sm w (w'.drewN n) := ⟨h.heap, h.os, h.tape, h.output⟩
theorem Sm.cell {w w' : World} (h : Sm w w') (a : Addr) : w'.cell? a = w.cell? a := World.cell?_of_block (by rw [h.heap])
theorem Sm.but {w w' : World} (h : Sm w w') (S : Nat → Prop) : But S w w' := ⟨h.os, h.tape, h.output, by rw [h.heap]; exact Nat.le_refl _, fun k _ _ => by rw [h.heap]⟩

/-- Behind keep. -/
def K3 (ρ : Nat → Nat) (w : World) (hb : Nat) (A B C : Value) (N : Int) (p : Nat) (w' : World) : Prop :=
  ∃ ρ' vo vm, ∃ outs : List Out, HP ρ' w' hb A B C N vo vm (outs.map (fun o => o.1)) (outs.map (fun o => o.2.2)) outs ∧ (∀ o ∈ outs, ∀ g, o.1.ownBlock = some g → ρ' g = 4) ∧ outs.length = p + 4 ∧ (∀ j, j < w.heap.size → ρ j ≠ 5 → ρ' j = ρ j) ∧ Sml outs ∧
    But (fun j => ρ j = 1 ∨ ρ j = 2 ∨ ρ j = 3 ∨ ρ j = 5) w w'
theorem k3_of {ρ ρ1 : Nat → Nat} {w wx w' : World} {hb : Nat} {A B C : Value} {N : Int} {p : Nat} {vo vm : Value} {outs : List Out} (hp : HP ρ1 wx hb A B C N vo vm (outs.map (fun o => o.1)) (outs.map (fun o => o.2.2)) outs)
    (hlen : outs.length = p + 4) (hag : ∀ j, j < w.heap.size → ρ1 j = ρ j) (h45 : ∀ o ∈ outs, ∀ g, o.1.ownBlock = some g → ρ1 g = 4 ∨ ρ1 g = 5) (hbut : But (fun j => ρ j = 1 ∨ ρ j = 2 ∨ ρ j = 3 ∨ ρ j = 5) w wx) (hsm : Sml outs) (hs : Sm wx w') : K3 ρ w hb A B C N p w' := by
  have hp' := hp.but (hs.but (fun _ => False)) (fun _ _ h => h.elim) (fun _ _ _ _ h => h)
  refine ⟨fun j => if ρ1 j = 5 then 4 else ρ1 j, vo, vm, outs, ⟨hp'.row, hp'.oo, hp'.om, ?_, ?_, ?_, ?_⟩, ?_, hlen, ?_, hsm, hbut.then (hs.but (fun _ => False)) (fun _ _ h => h.elim)⟩
  · show (if ρ1 hb = 5 then 4 else ρ1 hb) = 1
    have := hp.rb; split <;> omega
  · intro g hg
    show (if ρ1 g = 5 then 4 else ρ1 g) = 2
    have := hp.ro g hg; split <;> omega
  · intro g hg
    show (if ρ1 g = 5 then 4 else ρ1 g) = 3
    have := hp.rm g hg; split <;> omega
  · intro o ho
    refine ⟨(hp'.fo o ho).1, fun g hg => ⟨((hp'.fo o ho).2 g hg).1, ?_⟩⟩
    show 4 ≤ (if ρ1 g = 5 then 4 else ρ1 g)
    have := ((hp'.fo o ho).2 g hg).2; split <;> omega
  · intro o ho g hg
    show (if ρ1 g = 5 then 4 else ρ1 g) = 4
    have := h45 o ho g hg; split <;> omega
  · intro j hj h5
    show (if ρ1 j = 5 then 4 else ρ1 j) = ρ j
    rw [hag j hj, if_neg h5]

set_option maxHeartbeats 2000000 in
theorem keep_any (ρ : Nat → Nat) (w : World) (hb : Nat) (A B C : Value) (N : Nat) (vo vm : Value) (outs : List Out) (ao : Option Addr) (n g : Nat) (xs : List Int) (T : TypeId)
    (hp : HP ρ w hb A B C N vo vm (outs.map (fun o => o.1)) (outs.map (fun o => o.2.2)) outs) (h4 : ∀ o ∈ outs, ∀ q, o.1.ownBlock = some q → ρ q = 4) (hl : LR ρ w ao n g xs T) (hN : N ≤ 1000000) (hout : outs.length ≤ 1000000) (hn : n ≤ 1000) (hsml : Sml outs) :
    Calls Try.prog 19 #[.pointer (some ⟨hb, 0, none⟩), .slice ao n n] w fun e w' => e = .returned (.bool true) ∧ K3 ρ w hb A B C ((N : Int) + 1) outs.length w' := by
  obtain ⟨c0, c1, c2, c3, c4, c5, fr⟩ := cells6 hp.row
  have hm1 : 0 ≤ ((N : Int) + 1) % 250 ∧ ((N : Int) + 1) % 250 ≤ 255 := by omega
  go_enter Try.func19, Try.ntmps19
  go_wp2_with fail
  have hp1 := HP.setN hp ((N : Int) + 1)
  have hbut1 : But (fun k => ρ k = 1) w (w.setCell ⟨hb, 3, none⟩ (.int .i64 ((N : Int) + 1))) := (But.refl _ _).setCell (.inl hp.rb) _
  have hg1 : ∀ a, ao = some a → a = ⟨g, 0, none⟩ ∧ (w.setCell ⟨hb, 3, none⟩ (.int .i64 ((N : Int) + 1))).heap[g]? = some (.cells (vs xs) T (0, 0)) := fun a ha => ⟨(hl.row a ha).1, (hbut1.block g (lt_of_row (hl.row a ha).2.1) (by rw [(hl.row a ha).2.2]; omega)).trans (hl.row a ha).2.1⟩
  generalize hw1 : w.setCell ⟨hb, 3, none⟩ (.int .i64 ((N : Int) + 1)) = w1 at *
  clear hw1 c0 c1 c2 c3 c4 c5 fr hp
  generalize hmm : ((N : Int) + 1) % 250 = m at *
  clear hmm
  have hlen : xs.length = n := hl.len
  have Hlen : Hid _ := hlen
  clear hlen
  go_loopw [6] (fun iv wr => ∃ k : Nat, k ≤ n ∧ iv = .int .i64 k ∧ (∀ a, ao = some a → wr.heap[g]? = some (.cells (vs (List.replicate k m ++ xs.drop k)) T (0, 0))) ∧ But (fun q => q = g ∧ ao ≠ none) w1 wr) (fun iv _ => n - (intOf iv).toNat)
  case atStart => exact ⟨0, Nat.zero_le _, rfl, fun a ha => (hg1 a ha).2, But.refl _ _⟩
  case round =>
    obtain ⟨k, hk, rfl, hrow, hbw⟩ := hrel
    by_cases hlt : k < n
    · have hlt2 : (k : Int) < (n : Int) := by omega
      obtain ⟨a, rfl⟩ : ∃ a, ao = some a := by
        cases ao with
        | none => exact absurd (hl.nil0 rfl) (by omega)
        | some a => exact ⟨a, rfl⟩
      obtain ⟨rfl, _⟩ := hg1 a rfl
      have hr := hrow _ rfl
      obtain ⟨v0, hcell⟩ : ∃ v0, wr.cell? ⟨g, k, none⟩ = some v0 := ⟨_, (cell_of_row wr g k _ _ _ hr).trans (vs_get _ k (by simp [Hlen.out]; omega))⟩
      have hfr := frozen_of_row wr g k _ _ hr
      have hnew := heap_setCell_same wr g k _ _ (.int .u8 m) hr
      rw [fill_step xs m k (by rw [Hlen.out]; exact hlt)] at hnew
      have hbw2 : But (fun q => q = g ∧ (some (⟨g, 0, none⟩ : Addr)) ≠ none) w1 (wr.setCell ⟨g, k, none⟩ (.int .u8 m)) := hbw.setCell (.inl ⟨rfl, by simp⟩) _
      have Hn : Hid _ := hnew
      clear hnew hr hrow hbw
      go_wp2_with fail
      go_roundw
      case rel => exact ⟨k + 1, by omega, by go_num, fun _ _ => Hn.out, hbw2⟩
      case measure => simp [intOf]; omega
    · have hlt2 : ¬ (k : Int) < (n : Int) := by omega
      obtain rfl : k = n := by omega
      have hls : LS ρ wr (.slice ao k k) k m := ls_of hl hm1 (Nat.le_trans hbut1.size hbw.size) (fun h0 => by
        cases ao with
        | none => exact absurd (hl.nil0 rfl) (by omega)
        | some a => have := hrow a rfl; rwa [List.drop_of_length_le (by rw [Hlen.out]; omega), List.append_nil] at this)
      have hr5 : ∀ a, ao = some a → ρ g = 5 := fun a ha => (hl.row a ha).2.2
      have hS : ∀ q, (q = g ∧ ao ≠ none) → ρ q = 5 := by
        rintro q ⟨rfl, h0⟩
        cases ao with
        | none => exact absurd rfl h0
        | some a => exact hr5 a rfl
      have hp2 := hp1.but hbw (fun q _ hq => .inr (by rw [hS q hq]; omega)) (fun o ho q hq hs => by have := h4 o ho q hq; have := hS q hs; omega)
      have hbut2 : But (fun q => ρ q = 1 ∨ ρ q = 5) w wr := (hbut1.mono (fun q _ h => .inl h)).then (hbw.mono (fun q _ h => hS q h)) (fun q _ h => .inr h)
      have hnw : NW ρ outs k m := fun o ho q hq h5 => by have := h4 o ho q hq; omega
      clear hp1 hbut1 hg1 hrow hbw hr5 hS hl Hlen
      go_wp2_with fail
      have hk2 : K2 ρ w hb A B C ((N : Int) + 1) outs.length k m 0 (.slice ao k k) wr := ⟨ρ, vo, vm, outs, hp2, hls, hnw, rfl, fun _ _ => rfl, fun o ho g hg => .inl (h4 o ho g hg), hsml, hbut2.mono (fun j _ h => h.elim .inl (fun h => .inr (.inr (.inr h))))⟩
      clear hp2 hls hnw hbut2 h4
      go_loopw [1, 7] (fun lv iv wx => ∃ (q : Nat) (l : Value), q ≤ 4 ∧ iv = .int .i64 q ∧ l = lv ∧ K2 ρ w hb A B C ((N : Int) + 1) outs.length k m q l wx) (fun _ iv _ => 4 - (intOf iv).toNat)
      case atStart => exact ⟨0, _, by omega, rfl, rfl, hk2⟩
      case round =>
        clear hk2
        obtain ⟨q, l, hq, rfl, rfl, hk2⟩ := hrel
        by_cases hlt : q < 4
        · have hlt2 : (q : Int) < 4 := by omega
          obtain ⟨ρ1, vo1, vm1, outs1, hp1, hls1, hnw1, hlen1, hag1, h45, hsml1, hbut1⟩ := hk2
          obtain ⟨la, lc, rfl⟩ := hls1.by_.shape
          rw [List.length_replicate] at hls1 ⊢
          obtain ⟨c0, c1, c2, c3, c4, c5, fr⟩ := cells6 hp1.row
          clear c0 c1 c2 c3
          have hol : (outs1.map (fun o => o.1)).length = outs.length + q := by rw [List.length_map]; exact hlen1
          have Hol : Hid _ := hol
          clear hol
          go_upto_region 11 with (at_builtin; refine appL rfl (.tmp 42) (.tmp 44) 25 22 (.slice none 0 0) 24 Try.underlying25 infoS rfl rfl 0 vo1 _ _ rfl (hp1.oo.alloc _) ⟨wr.heap.size, 0, none⟩ 1 1 [.slice la (k + q) lc] rfl (by omega) rfl (one_cell _ _ _) (by intro u hu; simp at hu; subst hu; rfl) (by rw [Hol.out]; unfold maxLen; omega) (by rw [Hol.out]; omega) (Nat.zero_le _) ?_; intro vo2 w2 own2 app2; obtain ⟨oa2, oc2, rfl⟩ := own_shape own2; have hr2 := HP.rowApp hp1 hp1.ro (by omega) app2; obtain ⟨d0, d1, d2, d3, d4, d5, dfr⟩ := cells6 hr2)
          obtain ⟨hp2, hbut2⟩ := HP.pushOut hp1 own2 app2
          rw [Hol.out] at hp2 hbut2
          clear own2 app2 hr2 d0 d1 d2 d3 d4 d5 dfr c4 c5 fr
          generalize hv2 : Value.slice oa2 (outs.length + q + 1) oc2 = vo2 at *
          clear hv2
          generalize hw3 : w2.setCell ⟨hb, 4, none⟩ vo2 = w3 at *
          clear hw3
          have hls2 : LS (extR ρ1 wr.heap.size 2) w3 (.slice la (k + q) lc) (k + q) m := LS.but hls1 hbut2 (fun g hg hs => by omega) (fun g hg => ext_lt hg)
          have hnw2 : NW (extR ρ1 wr.heap.size 2) outs1 (k + q) m := NW.role hnw1 (fun o ho g hg => ((hp1.fo o ho).2 g hg).1) (fun g hg => ext_lt hg)
          have hag2 : ∀ j, j < w.heap.size → extR ρ1 wr.heap.size 2 j = ρ j := fun j hj => by rw [ext_lt (Nat.lt_of_lt_of_le hj hbut1.size)]; exact hag1 j hj
          have h45b : ∀ o ∈ outs1, ∀ g, o.1.ownBlock = some g → extR ρ1 wr.heap.size 2 g = 4 ∨ extR ρ1 wr.heap.size 2 g = 5 := fun o ho g hg => by rw [ext_lt ((hp1.fo o ho).2 g hg).1]; exact h45 o ho g hg
          have hbutb : But (fun j => ρ j = 1 ∨ ρ j = 2 ∨ ρ j = 3 ∨ ρ j = 5) w w3 := hbut1.then hbut2 (fun j hj h => by rw [hag1 j hj] at h; exact h.elim .inl (fun h => .inr (.inl h)))
          clear hp1 hbut1 hls1 hnw1 hag1 h45 hbut2
          generalize extR ρ1 wr.heap.size 2 = ρ2 at *
          obtain ⟨c0, c1, c2, c3, c4, c5, fr⟩ := cells6 hp2.row
          clear c0 c1 c2 c3 c4
          have hml : (outs1.map (fun o => o.2.2)).length = outs.length + q := by rw [List.length_map]; exact hlen1
          have Hml : Hid _ := hml
          clear hml
          go_upto_region 12 with (at_builtin; refine appL rfl (.tmp 52) (.tmp 54) 22 5 (.int .u8 0) 1 Try.underlying22 info8 rfl rfl 0 vm1 _ _ rfl (hp2.om.alloc _) ⟨w3.heap.size, 0, none⟩ 1 1 [.int .u8 m] rfl (by omega) rfl (one_cell _ _ _) (by intro u hu; simp at hu; subst hu; rfl) (by rw [Hml.out]; unfold maxLen; omega) (by rw [Hml.out]; omega) (Nat.zero_le _) ?_; intro vm2 w4 own4 app4; obtain ⟨oa4, oc4, rfl⟩ := own_shape own4; have hr4 := HP.rowApp hp2 hp2.rm (by omega) app4; obtain ⟨d0, d1, d2, d3, d4, d5, dfr⟩ := cells6 hr4)
          obtain ⟨hp4, hbut4⟩ := HP.pushMark hp2 own4 app4
          rw [Hml.out] at hp4 hbut4
          clear own4 app4 hr4 d0 d1 d2 d3 d4 d5 dfr c5 fr
          generalize hv4 : Value.slice oa4 (outs.length + q + 1) oc4 = vm2 at *
          clear hv4
          generalize hw5 : w4.setCell ⟨hb, 5, none⟩ vm2 = w5 at *
          clear hw5
          have hls4 : LS (extR ρ2 w3.heap.size 3) w5 (.slice la (k + q) lc) (k + q) m := LS.but hls2 hbut4 (fun g hg hs => by omega) (fun g hg => ext_lt hg)
          have hnw4 : NW (extR ρ2 w3.heap.size 3) outs1 (k + q) m := NW.role hnw2 (fun o ho g hg => ((hp2.fo o ho).2 g hg).1) (fun g hg => ext_lt hg)
          have hag4 : ∀ j, j < w.heap.size → extR ρ2 w3.heap.size 3 j = ρ j := fun j hj => by rw [ext_lt (Nat.lt_of_lt_of_le hj hbutb.size)]; exact hag2 j hj
          have h45c : ∀ o ∈ outs1, ∀ g, o.1.ownBlock = some g → extR ρ2 w3.heap.size 3 g = 4 ∨ extR ρ2 w3.heap.size 3 g = 5 := fun o ho g hg => by rw [ext_lt ((hp2.fo o ho).2 g hg).1]; exact h45b o ho g hg
          have hbutc : But (fun j => ρ j = 1 ∨ ρ j = 2 ∨ ρ j = 3 ∨ ρ j = 5) w w5 := hbutb.then hbut4 (fun j hj h => by rw [hag2 j hj] at h; exact h.elim .inl (fun h => .inr (.inr (.inl h))))
          clear hp2 hbutb hls2 hnw2 hag2 h45b hbut4 Hol Hml
          generalize extR ρ2 w3.heap.size 3 = ρ3 at *
          have hp5 := HP.more hp4 hls4
          have hnw5 : NW ρ3 (outs1 ++ [(.slice la (k + q) lc, k + q, m)]) (k + q) m := by
            intro o ho g hg h5
            rcases List.mem_append.1 ho with ho | ho
            · exact hnw4 o ho g hg h5
            · simp only [List.mem_singleton] at ho
              subst ho
              exact ⟨rfl, Nat.le_refl _, hls4.z g hg⟩
          have h45d : ∀ o ∈ outs1 ++ [(.slice la (k + q) lc, k + q, m)], ∀ g, o.1.ownBlock = some g → ρ3 g = 4 ∨ ρ3 g = 5 := by
            intro o ho g hg
            rcases List.mem_append.1 ho with ho | ho
            · exact h45c o ho g hg
            · simp only [List.mem_singleton] at ho
              subst ho
              exact .inr (hls4.ro g hg).2
          clear hp4 hnw4 h45c
          go_wp2_with (at_builtin; refine appOne rfl (.tmp 58) (.tmp 60) rfl (.slice la (k + q) lc) (k + q) m rfl hls4 rfl (by omega) ?_; intro l6 w6 own6 app6)
          obtain ⟨hp6, hls6, hnw6, hbut6⟩ := HP.pushL hp5 hls4 hnw5 hm1 own6 app6
          have hk6 : K2 ρ w hb A B C ((N : Int) + 1) outs.length k m (q + 1) l6 w6 := by
            refine ⟨extR ρ3 w5.heap.size 5, vo2, vm2, outs1 ++ [(.slice la (k + q) lc, k + q, m)], ?_, hls6, hnw6, ?_, ?_, ?_, ?_, ?_⟩
            · simpa using hp6
            · rw [List.length_append, hlen1]; rfl
            · intro j hj; rw [ext_lt (Nat.lt_of_lt_of_le hj hbutc.size)]; exact hag4 j hj
            · intro o ho g hg; rw [ext_lt ((hp5.fo o ho).2 g hg).1]; exact h45d o ho g hg
            · intro o ho
              rcases List.mem_append.1 ho with ho | ho
              · exact hsml1 o ho
              · simp only [List.mem_singleton] at ho
                subst ho
                show k + q ≤ 1000000
                omega
            · exact hbutc.then hbut6 (fun j hj h => by rw [hag4 j hj] at h; exact .inr (.inr (.inr h)))
          clear hp5 hls4 hnw5 own6 app6 hp6 hls6 hnw6 hbut6 hbutc hag4 h45d
          go_wp2_with fail
          go_roundw
          case rel => exact ⟨q + 1, _, by omega, by go_num, rfl, hk6⟩
          case measure => simp [intOf]; omega
        · have hlt2 : ¬ (q : Int) < 4 := by omega
          obtain rfl : q = 4 := by omega
          obtain ⟨ρ1, vo1, vm1, outs1, hp1, hls1, hnw1, hlen1, hag1, h45, hsml1, hbut1⟩ := hk2
          have hk3 : ∀ w', Sm wr w' → K3 ρ w hb A B C ((N : Int) + 1) outs.length w' := fun w' hs => k3_of hp1 hlen1 hag1 h45 hbut1 hsml1 hs
          have Hk3 : Hid _ := hk3
          have hfo := fun o ho => (hp1.fo o ho).1
          have Hfo : Hid _ := hfo
          have Hsml : Hid _ := hsml1
          obtain ⟨go, co, rfl, hgo⟩ := own_some hp1.oo (by rw [List.length_map]; omega)
          obtain ⟨gm, cm, rfl, hgm⟩ := own_some hp1.om (by rw [List.length_map]; omega)
          rw [List.length_map, hlen1] at hp1
          obtain ⟨c0, c1, c2, c3, c4, c5, fr⟩ := cells6 hp1.row
          have Hgo : Hid (∀ j, j < outs.length + 4 → wr.cell? ⟨go, j, none⟩ = some (outs1[j]?.getD dOut).1) := fun j hj => by rw [hgo j (by rw [List.length_map]; omega)]; exact map_at _ _ _ (by omega)
          have Hgm : Hid (∀ j, j < outs.length + 4 → wr.cell? ⟨gm, j, none⟩ = some (.int .u8 (outs1[j]?.getD dOut).2.2)) := fun j hj => by rw [hgm j (by rw [List.length_map]; omega), List.map_map]; exact map_at _ _ _ (by omega)
          rw [List.length_map, hlen1] at c5
          have Hlen1 : Hid _ := hlen1
          clear hp1 hls1 hnw1 hlen1 hag1 h45 hbut1 hk3 hfo hgo hgm c0 c1 c2 c3 fr
          go_wp2_with fail
          have hL : outs.length + 4 ≤ 1000004 := by omega
          generalize hwx : wr = wX at *
          have hsm0 : Sm wX wX := Sm.refl _
          go_loopw [8] (fun iv wr => ∃ i : Nat, i ≤ outs.length + 4 ∧ iv = .int .i64 i ∧ Sm wX wr) (fun iv _ => outs.length + 4 - (intOf iv).toNat)
          case atStart => exact ⟨0, Nat.zero_le _, rfl, hsm0⟩
          case round =>
            obtain ⟨i, hi, rfl, hsm⟩ := hrel
            have e4 := (hsm.cell ⟨hb, 4, none⟩).trans c4
            have e5 := (hsm.cell ⟨hb, 5, none⟩).trans c5
            by_cases hlt : i < outs.length + 4
            · have hlt2 : (i : Int) < (outs.length : Int) + 4 := by omega
              have ho := Hgo.out i hlt
              have hom := Hgm.out i hlt
              have hon := Hsml.out _ (mem_getD outs1 i (by rw [Hlen1.out]; exact hlt))
              have hF := Hfo.out _ (mem_getD outs1 i (by rw [Hlen1.out]; exact hlt))
              generalize outs1[i]?.getD dOut = o at *
              obtain ⟨ov, on, om⟩ := o
              simp only at ho hom hon
              obtain ⟨oa, oc, hov⟩ := hF.shape
              simp only [List.length_replicate] at hov
              subst hov
              have Ho : Hid _ := ho
              have Hom : Hid _ := hom
              have ho := (hsm.cell ⟨go, i, none⟩).trans Ho.out
              have hom := (hsm.cell ⟨gm, i, none⟩).trans Hom.out
              have HF : Hid (∀ q, q < on → ∃ b off, oa = some ⟨b, off, none⟩ ∧ wX.cell? ⟨b, off + q, none⟩ = some (.int .u8 om)) := filled_at hF
              clear hF
              go_wp2_with fail
              clear e4 e5 ho hom
              go_loopw [9] (fun iv wr => ∃ z : Nat, z ≤ on ∧ iv = .int .i64 z ∧ Sm wX wr) (fun iv _ => on - (intOf iv).toNat)
              case atStart => exact ⟨0, Nat.zero_le _, rfl, hsm⟩
              case round =>
                clear hsm
                obtain ⟨z, hz, rfl, hsm⟩ := hrel
                have e4 := (hsm.cell ⟨hb, 4, none⟩).trans c4
                have e5 := (hsm.cell ⟨hb, 5, none⟩).trans c5
                have ho := (hsm.cell ⟨go, i, none⟩).trans Ho.out
                have hom := (hsm.cell ⟨gm, i, none⟩).trans Hom.out
                by_cases hlt3 : z < on
                · have hlt4 : (z : Int) < (on : Int) := by omega
                  obtain ⟨b, off, rfl, hcz⟩ := HF.out z hlt3
                  have hcz2 := (hsm.cell ⟨b, off + z, none⟩).trans hcz
                  clear hcz
                  go_wp2_with fail
                  go_quiet (fail)
                  go_wp2_with fail
                  go_roundw
                  case rel => exact ⟨z + 1, by omega, by go_num, hsm.drewN _⟩
                  case measure => simp [intOf]; omega
                · have hlt4 : ¬ (z : Int) < (on : Int) := by omega
                  go_wp2_with fail
                  go_roundw
                  case rel => exact ⟨i + 1, by omega, by go_num, hsm⟩
                  case measure => simp [intOf]; omega
            · have hlt2 : ¬ (i : Int) < (outs.length : Int) + 4 := by omega
              go_wp2_with fail
              go_ret
              exact ⟨rfl, Hk3.out _ hsm⟩
end Go.Proofs.Ytbohgkegchmnaaa.kw
