/- The walk of the law's hashed. -/
import Derived.Test.YtbohgkegchmnaaaBackWalk
import Derived.Test.YtbohgkegchmnaaaStreamAll
import Derived.Deep.RegionHeld3
import Derived.Deep.DeepMust
namespace Go.Proofs.Ytbohgkegchmnaaa.hw
open Go.ChangeShapes Go.WideShapes Go.ChangeAt Go.RowKit Core cw nx sw bl rf rs sa hl kw ll lw bw

/-- The lender between two looks: nothing is lent; all that is his lies from base on. -/
def HH (w : World) (hb base N p : Nat) : Prop :=
  ∃ ρ vo vm, ∃ outs : List Out, HP ρ w hb (.slice none 0 0) (.slice none 0 0) (.slice none 0 0) N vo vm (outs.map (fun o => o.1)) (outs.map (fun o => o.2.2)) outs ∧ (∀ o ∈ outs, ∀ g, o.1.ownBlock = some g → ρ g = 4) ∧ Sml outs ∧ outs.length = p ∧ (∀ k, k < base → ρ k = 0)

theorem lent0 {ρ : Nat → Nat} {w : World} {hb : Nat} {N : Int} {vo vm : Value} {os : List Value} {ms : List Int} {outs : List Out} (h : HP ρ w hb (.slice none 0 0) (.slice none 0 0) (.slice none 0 0) N vo vm os ms outs) : Lent w w hb (.slice none 0 0) N (.slice none 0 0) (.slice none 0 0) vo vm [] :=
  ⟨h.row, World.ownsRow_nil _ _ _ _, World.ownsRow_nil _ _ _ _, (by intro g hg; cases hg), lt_of_row h.row, (by intro x hx; simp at hx), (by intro x hx; simp at hx), List.Pairwise.nil, But.refl _ _⟩

theorem Lent.bytes {w0 w : World} {hb : Nat} {C : Value} {N : Int} {vi vw vo vm : Value} {ins : List In} (h : Lent w0 w hb C N vi vw vo vm ins) {g : Nat} {l : Value} {xs : List Int} (hx : (g, l, xs) ∈ ins) (hu : u8s xs) (cap : Nat) : BytesAt w (.slice (some ⟨g, 0, none⟩) xs.length cap) xs := by
  have hr := (h.lent _ hx).1
  simp only at hr
  refine ⟨hu, .inr ⟨g, 0, cap, rfl, lt_of_row hr, fun j hj => ?_⟩⟩
  rw [cell_of_row w g _ _ _ _ hr, Nat.zero_add, vs_get _ _ (by simp; omega), List.getElem?_append_left hj]

theorem HP.renew {ρ ρ' : Nat → Nat} {w w' : World} {hb : Nat} {A B C A' B' C' : Value} {N : Int} {vo vm : Value} {os : List Value} {ms : List Int} {outs : List Out} (h : HP ρ w hb A B C N vo vm os ms outs) (hbut : But (fun k => k = hb) w w')
    (hrow : w'.heap[hb]? = some (.cells #[A', B', C', .int .i64 N, vo, vm] 28 (0, 0))) (hr : ∀ k, k < w.heap.size → ρ' k = ρ k) : HP ρ' w' hb A' B' C' N vo vm os ms outs := by
  refine ⟨hrow, ?_, ?_, ?_, ?_, ?_, ?_⟩
  · exact own_but h.oo hbut (fun g hg hs => by have := h.ro g hg; have := h.rb; subst hs; omega)
  · exact own_but h.om hbut (fun g hg hs => by have := h.rm g hg; have := h.rb; subst hs; omega)
  · rw [hr _ (lt_of_row h.row)]; exact h.rb
  · intro g hg; rw [hr _ (own_lt h.oo g hg)]; exact h.ro g hg
  · intro g hg; rw [hr _ (own_lt h.om g hg)]; exact h.rm g hg
  · intro o ho
    refine ⟨bytes_but (h.fo o ho).1 hbut (fun g hg hs => by have := ((h.fo o ho).2 g hg).2; have := h.rb; subst hs; omega), fun g hg => ⟨Nat.lt_of_lt_of_le ((h.fo o ho).2 g hg).1 hbut.size, ?_⟩⟩
    rw [hr _ ((h.fo o ho).2 g hg).1]; exact ((h.fo o ho).2 g hg).2

/-- The roles once two lists were told: the first is at hand, the second waits. -/
def rolF (ρ : Nat → Nat) (T gd gs : Nat) : Nat → Nat := fun k => if k = gd then 5 else if k = gs then 6 else if k < T then ρ k else 0
theorem rolF_lt {ρ : Nat → Nat} {T gd gs k : Nat} (h1 : T ≤ gd) (h2 : T ≤ gs) (hk : k < T) : rolF ρ T gd gs k = ρ k := by
  unfold rolF; rw [if_neg (by omega), if_neg (by omega), if_pos hk]
theorem rolF_gd {ρ : Nat → Nat} {T gd gs : Nat} : rolF ρ T gd gs gd = 5 := if_pos rfl
theorem rolF_gs {ρ : Nat → Nat} {T gd gs : Nat} (h : gd < gs) : rolF ρ T gd gs gs = 6 := by
  unfold rolF; rw [if_neg (by omega), if_pos rfl]
/-- The second is at hand. -/
def rolN (ρ : Nat → Nat) : Nat → Nat := fun k => if ρ k = 6 then 5 else ρ k
theorem rolN_ne {ρ : Nat → Nat} {k : Nat} (h : ρ k ≠ 6) : rolN ρ k = ρ k := if_neg h
theorem rolN_eq {ρ : Nat → Nat} {k : Nat} (h : ρ k = 6) : rolN ρ k = 5 := if_pos h

/-- Another role for one block that is none of his. -/
theorem HP.rerole {ρ ρ' : Nat → Nat} {w : World} {hb : Nat} {A B C : Value} {N : Int} {vo vm : Value} {os : List Value} {ms : List Int} {outs : List Out} (h : HP ρ w hb A B C N vo vm os ms outs) (hr : ∀ k, ρ k ≠ 6 → ρ' k = ρ k) (h4 : ∀ o ∈ outs, ∀ g, o.1.ownBlock = some g → ρ g = 4) : HP ρ' w hb A B C N vo vm os ms outs := by
  refine ⟨h.row, h.oo, h.om, ?_, ?_, ?_, ?_⟩
  · rw [hr _ (by have := h.rb; omega)]; exact h.rb
  · intro g hg; rw [hr _ (by have := h.ro g hg; omega)]; exact h.ro g hg
  · intro g hg; rw [hr _ (by have := h.rm g hg; omega)]; exact h.rm g hg
  · intro o ho
    refine ⟨(h.fo o ho).1, fun g hg => ⟨((h.fo o ho).2 g hg).1, ?_⟩⟩
    rw [hr _ (by have := h4 o ho g hg; omega)]; exact ((h.fo o ho).2 g hg).2

/-- The four lists of bytes that are held against each other. -/
structure Cv (w : World) (d s t b : Value) (xd ys xs : List Int) : Prop where
  d : BytesAt w d xd
  s : BytesAt w s ys
  t : BytesAt w t ys
  b : BytesAt w b xs
theorem Cv.below {w w' : World} {d s t b : Value} {xd ys xs : List Int} (h : Cv w d s t b xd ys xs) (hb : Below w.heap.size w w') : Cv w' d s t b xd ys xs := ⟨h.d.below hb, h.s.below hb, h.t.below hb, h.b.below hb⟩
theorem Cv.drew {w : World} {d s t b : Value} {xd ys xs : List Int} (h : Cv w d s t b xd ys xs) : Cv w.drew d s t b xd ys xs := ⟨h.d, h.s, h.t, h.b⟩
theorem cvS {w : World} {d s t b : Value} {xd ys xs : List Int} {D Y : ByteArray} (hD : strOfNums xd = D) (hY : strOfNums ys = Y) (h : Cv w d s t b xd ys xs) :
    (convert 22 9 d).run Try.prog w = .ok (.string D) w ∧ (convert 22 9 s).run Try.prog w = .ok (.string Y) w ∧ (convert 22 9 t).run Try.prog w = .ok (.string Y) w ∧ Cv w d s t b xd ys xs := by
  subst hD hY
  exact ⟨conv_drewN (conv_bytes h.d), conv_drewN (conv_bytes h.s), conv_drewN (conv_bytes h.t), h⟩

set_option maxHeartbeats 400000 in
theorem num_any (e : Int) (w : World) : Calls Try.prog 18 #[.int .i64 e] w fun r w' => r = .returned (.int .i64 e) ∧ w' = w := by
  go_enter Try.func18, Try.ntmps18
  go_wp2
  go_ret
  exact ⟨rfl, rfl⟩

set_option maxRecDepth 100000 in
set_option maxHeartbeats 4000000 in
theorem hashed_any (w : World) (hb base N p : Nat) (b : Value) (xs : List Int) (n : Int) (hh : HH w hb base N p) (hN : N ≤ 100000) (hp : p ≤ 100000) (hB : BytesAt w b xs) (hbne : NotIn b hb) (hbase : base ≤ hb) (hxs : xs.length ≤ 140737488351232) :
    Calls Try.prog 7 #[.pointer (some ⟨hb, 0, none⟩), b, .int .i64 n] w fun e w' => e = .returned (.bool true) ∧ HH w' hb base (N + 2) (p + 8) ∧ Below base w w' := by
  obtain ⟨ρ, vo, vm, outs, hp0, h4, hsml, hlen, hlow⟩ := hh
  have hL0 := lent0 hp0
  go_enter Try.func7, Try.ntmps7
  go_wp2_with fail
  refine (bytes_any w w hb _ _ _ _ _ _ [] b xs hL0 (by simp) hB hbne hxs).mono ?_
  rintro e w1 ⟨g1, vi1, vw1, hg1, rfl, hL1, _⟩
  rw [List.nil_append] at hL1
  have hX1 := Lent.bytes hL1 (List.mem_singleton.2 rfl) hB.1 (xs.length + 2)
  go_wp2_with fail
  refine (digest_any _ xs _ (by omega) hX1).mono ?_
  rintro e w2 ⟨gd, hgd, rfl, hrd, hb2⟩
  have hL2 := hL1.below hb2
  go_wp2_with fail
  refine (bytes_any w w2 hb _ _ _ _ _ _ _ b xs hL2 (by simp) hB hbne hxs).mono ?_
  rintro e w3 ⟨g2, vi3, vw3, hg2, rfl, hL3, hbu3⟩
  have hX2 := Lent.bytes hL3 (List.mem_append.2 (.inr (List.mem_singleton.2 rfl))) hB.1 (xs.length + 2)
  go_wp2_with fail
  refine (stream_all _ xs n _ hxs hX2).mono ?_
  rintro e w4 ⟨ao, gs, rfl, hao, hgs, hb4⟩
  have hL4 := hL3.below hb4
  go_wp2_with fail
  refine (back_any w w4 hb _ _ _ _ _ _ hL4 (by simp) (by simp) (by intro x hx; simp at hx; rcases hx with rfl | rfl <;> exact hxs)).mono ?_
  rintro e w5 ⟨rfl, hrow5, hbu5⟩
  have l1 : g1 < w1.heap.size := lt_of_row (hL1.lent _ (List.mem_singleton.2 rfl)).1
  have l2 : g1 < w3.heap.size := lt_of_row (hL3.lent (g1, b, xs) (by simp)).1
  have l3 : g2 < w3.heap.size := lt_of_row (hL3.lent (g2, b, xs) (by simp)).1
  have l4 : hb < w.heap.size := lt_of_row hp0.row
  have l5 : w.heap.size ≤ w1.heap.size := hL1.but.size
  have l6 : gd < w2.heap.size := lt_of_row hrd
  have hisl : ∀ k, IsLent ([(g1, b, xs)] ++ [(g2, b, xs)]) k → k = g1 ∨ k = g2 := by
    rintro k ⟨x, hx, rfl⟩
    simp at hx
    rcases hx with rfl | rfl
    · exact .inl rfl
    · exact .inr rfl
  have hrd3 : w3.heap[gd]? = some (.cells (vs (dg (foldB fnv0 xs))) 43 (0, 0)) := (hbu3.block gd l6 (fun e => by
    rcases e with e | e | e
    · omega
    · have := own_lt hL1.oi gd e; omega
    · have := own_lt hL1.ow gd e; omega)).trans hrd
  have hrd5 : w5.heap[gd]? = some (.cells (vs (dg (foldB fnv0 xs))) 43 (0, 0)) := (hbu5.block gd (lt_of_row ((hb4.block gd (lt_of_row hrd3)).trans hrd3)) (fun e => by
    rcases e with e | e
    · omega
    · rcases hisl gd e with e | e <;> omega)).trans ((hb4.block gd (lt_of_row hrd3)).trans hrd3)
  have hgs5 : ∀ a, ao = some a → a = ⟨gs, 0, none⟩ ∧ w3.heap.size ≤ gs ∧ w5.heap[gs]? = some (.cells (vs (told (foldB fnv0 xs) n)) 5 (0, 0)) := by
    intro a ha
    obtain ⟨q1, q2, q3⟩ := hgs a ha
    have l7 : w.heap.size ≤ w3.heap.size := hL3.but.size
    exact ⟨q1, q2, (hbu5.block gs (lt_of_row q3) (fun e => by
      rcases e with e | e
      · omega
      · rcases hisl gs e with e | e <;> omega)).trans q3⟩
  have hbutw : But (fun k => k = hb) w w5 := hL4.but.then hbu5 (fun k hk e => by
    rcases e with e | e
    · exact e
    · rcases hisl k e with e | e
      · omega
      · have : w.heap.size ≤ w2.heap.size := hL2.but.size
        omega)
  have l8 : w2.heap.size ≤ w3.heap.size := hbu3.size
  have l9 : w3.heap.size ≤ w5.heap.size := Nat.le_trans hb4.size hbu5.size
  have hB5 := bytes_notin hB hbutw hbne
  clear hL0 hL1 hX1 hL2 hL3 hX2 hL4 hrd hb2 hbu3 hgs hb4 hbu5 hisl hrd3 hB
  go_wp2_with fail
  refine (rStream_all _ xs n _ hxs hB5).mono ?_
  rintro e w6 ⟨ta, tc, rfl, hT, hb6⟩
  have hB6 := hB5.below hb6
  go_wp2_with fail
  have hyl := told_len (foldB fnv0 xs) n
  have hyu := told_u8 (foldB fnv0 xs) n
  generalize hYS : told (foldB fnv0 xs) n = YS at *
  clear hYS
  have hDb : BytesAt w6 (.slice (some ⟨gd, 0, none⟩) 8 8) (dg (foldB fnv0 xs)) := row_bytes (cap := 8) ((hb6.block gd (lt_of_row hrd5)).trans hrd5) (dg_u8 _)
  have hSb : BytesAt w6 (.slice ao YS.length YS.length) YS := by
    cases ao with
    | none =>
      have h0 := hao rfl
      have h1 : YS = [] := List.eq_nil_of_length_eq_zero h0
      subst h1
      exact BytesAt.nil _
    | some a =>
      obtain ⟨rfl, _, q3⟩ := hgs5 a rfl
      exact row_bytes (cap := YS.length) ((hb6.block gs (lt_of_row q3)).trans q3) hyu
  have hcv : Cv w6 (.slice (some ⟨gd, 0, none⟩) 8 8) (.slice ao YS.length YS.length) (.slice ta YS.length tc) b (dg (foldB fnv0 xs)) YS xs := ⟨hDb, hSb, hT, hB6⟩
  clear hDb hSb hT hB6
  generalize hD : strOfNums (dg (foldB fnv0 xs)) = D at *
  generalize hY : strOfNums YS = Y at *
  have HD : Hid _ := hD
  have HY : Hid _ := hY
  generalize hm : YS.length = m at *
  have Hm : Hid _ := hm
  have Hxs : Hid _ := hxs
  clear hD hY hm hxs
  go_cut [13] from 36 to 54 (fun okv wz => okv = .bool true ∧ Below w6.heap.size w6 wz)
  case first =>
    clear hp0 h4 hsml hlen hlow hbne hrow5 hrd5 hbutw hgs5 hB5 hb6 l1 l2 l3 l4 l5 l6 l8 l9 hao hyu hyl hg1 hgd hg2 hN hp hbase Hm
    obtain ⟨vd1, vs1, vt1, _⟩ := cvS HD.out HY.out (Cv.drew hcv)
    go_region_with (first | (go_at_call 17; refine (rdigest_any b xs _ (by have := Hxs.out; omega) (Cv.drew hcv).b).mono ?_; rintro e w7 ⟨gr, hgr, rfl, hrr, hb7⟩; have hvr := conv_drewN (conv_bytes (row_bytes (cap := 8) hrr (dg_u8 _))); rw [HD.out, dg_length] at hvr; obtain ⟨vd2, vs2, vt2, _⟩ := cvS HD.out HY.out (Cv.below (Cv.drew hcv) hb7)) | (go_at_call 18; refine (num_any _ _).mono ?_; rintro e w8 ⟨rfl, rfl⟩))
    all_goals go_wp2_with fail
    all_goals go_meet
    all_goals exact ⟨rfl, (Below.refl _ _).drew.trans (by assumption)⟩
  case rest =>
    obtain ⟨rfl, hbc⟩ := hcut
    have hgdl : w.heap.size ≤ gd := by omega
    have hgsl : ∀ a, ao = some a → w.heap.size ≤ gs := fun a ha => by have := (hgs5 a ha).2.1; omega
    have hrow6 := (hb6.block hb (by omega)).trans hrow5
    have hrowc := (hbc.block hb (lt_of_row hrow6)).trans hrow6
    have hbutc : But (fun k => k = hb) w wc := (hbutw.then (But.of_below (fun _ => False) hb6) (fun _ _ e => e.elim)).then (But.of_below (fun _ => False) hbc) (fun _ _ e => e.elim)
    have hrdc : wc.heap[gd]? = some (.cells (vs (dg (foldB fnv0 xs))) 43 (0, 0)) := by
      have h1 := (hb6.block gd (lt_of_row hrd5)).trans hrd5
      exact (hbc.block gd (lt_of_row h1)).trans h1
    have hgsc : ∀ a, ao = some a → a = ⟨gs, 0, none⟩ ∧ gd < gs ∧ wc.heap[gs]? = some (.cells (vs YS) 5 (0, 0)) := by
      intro a ha
      obtain ⟨q1, q2, q3⟩ := hgs5 a ha
      have h1 := (hb6.block gs (lt_of_row q3)).trans q3
      exact ⟨q1, by omega, (hbc.block gs (lt_of_row h1)).trans h1⟩
    clear hcv hb6 hbc hrow5 hrow6 hrd5 hbutw hgs5 hB5 Hxs HD HY l1 l2 l3 l5 l6 l8 l9 hg1 hgd hg2
    obtain ⟨gq, hgq, hgq2⟩ : ∃ gq, w.heap.size ≤ gq ∧ ∀ a, ao = some a → gq = gs := by
      cases ao with
      | none => exact ⟨gd, hgdl, by intro a ha; cases ha⟩
      | some a => exact ⟨gs, hgsl a rfl, fun _ _ => rfl⟩
    have hk := keep_any (rolF ρ w.heap.size gd gq) wc hb (.slice none 0 0) (.slice none 0 0) (.slice none 0 0) N vo vm outs (some ⟨gd, 0, none⟩) 8 gd (dg (foldB fnv0 xs)) 43
      (HP.renew hp0 hbutc hrowc (fun k hk => rolF_lt hgdl hgq hk))
      (fun o ho q hq => by rw [rolF_lt hgdl hgq ((hp0.fo o ho).2 q hq).1]; exact h4 o ho q hq)
      ⟨rfl, (by intro h; cases h), fun a ha => ⟨(Option.some.inj ha).symm, hrdc, rolF_gd⟩⟩ (by omega) (by omega) (by omega) hsml
    go_wp2_with fail
    refine hk.mono ?_
    rintro e w9 ⟨rfl, ρ2, vo2, vm2, outs2, hp2, h42, hlen2, hag2, hsml2, hbut2⟩
    clear hk
    have hcast : (N : Int) + 1 = ((N + 1 : Nat) : Int) := by omega
    rw [hcast] at hp2
    have hrs : ∀ a, ao = some a → a = ⟨gs, 0, none⟩ ∧ w9.heap[gs]? = some (.cells (vs YS) 5 (0, 0)) ∧ ρ2 gs = 6 := by
      intro a ha
      obtain ⟨q1, q2, q3⟩ := hgsc a ha
      have e6 : rolF ρ w.heap.size gd gq gs = 6 := by rw [hgq2 a ha]; exact rolF_gs q2
      refine ⟨q1, (hbut2.block gs (lt_of_row q3) (by rw [e6]; omega)).trans q3, ?_⟩
      rw [hag2 gs (lt_of_row q3) (by rw [e6]; omega)]; exact e6
    have hk := keep_any (rolN ρ2) w9 hb (.slice none 0 0) (.slice none 0 0) (.slice none 0 0) (N + 1) vo2 vm2 outs2 ao m gs YS 5
      (HP.rerole hp2 (fun k hk => rolN_ne hk) h42)
      (fun o ho q hq => by rw [rolN_ne (by have := h42 o ho q hq; omega)]; exact h42 o ho q hq)
      ⟨Hm.out, hao, fun a ha => ⟨(hrs a ha).1, (hrs a ha).2.1, rolN_eq (hrs a ha).2.2⟩⟩ (by omega) (by omega) hyl hsml2
    go_wp2_with fail
    refine hk.mono ?_
    rintro e w10 ⟨rfl, ρ3, vo3, vm3, outs3, hp3, h43, hlen3, hag3, hsml3, hbut3⟩
    clear hk
    have hwc : w.heap.size ≤ wc.heap.size := hbutc.size
    have hlow2 : ∀ k, k < base → ρ2 k = 0 := fun k hk => by
      have e1 : rolF ρ w.heap.size gd gq k = 0 := by rw [rolF_lt hgdl hgq (by omega)]; exact hlow k hk
      rw [hag2 k (by omega) (by omega)]; exact e1
    have hlowF : ∀ k, k < base → rolF ρ w.heap.size gd gq k = 0 := fun k hk => by rw [rolF_lt hgdl hgq (by omega)]; exact hlow k hk
    have hlow3 : ∀ k, k < base → rolN ρ2 k = 0 := fun k hk => by rw [rolN_ne (by have := hlow2 k hk; omega)]; exact hlow2 k hk
    have hlow4 : ∀ k, k < base → ρ3 k = 0 := fun k hk => by
      have e1 := hlow3 k hk
      rw [hag3 k (by have := hbut2.size; omega) (by omega)]; exact e1
    have hbel : Below base w w10 := by
      have b1 : Below base w wc := hbutc.below (by omega) (by intro k hk; omega)
      have b2 : Below base wc w9 := hbut2.below (by omega) (by intro k hk; have := hlowF k hk; omega)
      have b3 : Below base w9 w10 := hbut3.below (by have := hbut2.size; omega) (by intro k hk; have := hlow3 k hk; omega)
      exact (b1.trans b2).trans b3
    have hcast2 : ((N + 1 : Nat) : Int) + 1 = ((N + 2 : Nat) : Int) := by omega
    rw [hcast2] at hp3
    have hfin : HH w10 hb base (N + 2) (p + 8) := ⟨ρ3, vo3, vm3, outs3, hp3, h43, hsml3, by omega, hlow4⟩
    clear hp0 hp2 hp3 h4 h42 h43 hag2 hag3 hbut2 hbut3 hlow hlow2 hlow3 hlow4 hlowF hrs hgsc hgsl hgq2 hrowc hrdc hbutc hsml hsml2 hsml3 hcast hcast2
    go_wp2_with fail
    go_ret
    exact ⟨rfl, hfin, hbel⟩
end Go.Proofs.Ytbohgkegchmnaaa.hw
