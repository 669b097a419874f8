/- The state that the law TallyTracks goes through. The law TallyTracks. -/
import Derived.Test.YtenpbcpdecnhmaaTA13
import Derived.Test.YtenpbcpdecnhmaaTA14
import Derived.Test.YtenpbcpdecnhmaaTA17
import Derived.Test.YtenpbcpdecnhmaaTA10
import Derived.Deep.RegionHeld
import Derived.Deep.CutRange
import Derived.Deep.CutBlock
/- Part: TaU. -/
namespace Go.Proofs.Ytenpbcpdecnhmaa.M
open Go.RowKit Go.Maps

/-- Peers whose numbers are far from any wrap. -/
def OkL (l : List Pr) : Prop := ∀ x ∈ l, In1 x.1 ∧ 0 ≤ x.2.1 ∧ x.2.1 < x.2.2 ∧ x.2.2 ≤ 1099511627777

theorem OkL.only {l l' : List Pr} {f : Int → Option (Int × Int)} (h : OkL l) (hr : Rel l f) {last : Int} {ids : List Int} (hr' : Rel l' (onlyP f last ids)) (hl : last ≤ 1099511627776) (hi : ∀ x ∈ ids, In1 x) : OkL l' := by
  intro x hx
  obtain ⟨i, m, nx⟩ := x
  have h1 := (hr'.mem i m nx).1 hx
  unfold onlyP at h1
  split at h1
  · rename_i hm
    refine ⟨hi i hm, ?_⟩
    cases hf : f i with
    | none =>
      rw [hf] at h1
      obtain ⟨rfl, h3⟩ : 0 = m ∧ max last 0 = nx - 1 := by simpa using h1
      simp only
      omega
    | some p =>
      rw [hf] at h1
      have h2 : p = (m, nx - 1) := by simpa using h1
      have h3 := h (i, m, nx) ((hr.mem i m nx).2 (by rw [hf, h2]))
      exact h3.2
  · cases h1

theorem OkL.ack {l : List Pr} (h : OkL l) {index : Int} (hi : index ≤ 1099511627776) (id : Int) : OkL (chgL (ackU index) id l) := by
  intro x hx
  obtain ⟨y, hy, rfl⟩ := List.mem_map.1 hx
  have := h y hy
  split
  · unfold ackU
    split
    · exact ⟨this.1, by simp only; omega, by simp only; omega, by simp only; omega⟩
    · exact this
  · exact this

theorem OkL.back {l : List Pr} (h : OkL l) {index hint : Int} (id : Int) : OkL (chgL (backU index hint) id l) := by
  intro x hx
  obtain ⟨y, hy, rfl⟩ := List.mem_map.1 hx
  have := h y hy
  split
  · unfold backU
    split
    · exact ⟨this.1, by simp only; omega, by simp only; omega, by simp only; omega⟩
    · exact this
  · exact this

theorem chgL_len (u : Pr → Pr) (id : Int) (l : List Pr) : (chgL u id l).length = l.length := by simp [chgL]

/-- The first t of them changed. -/
def mix (u : Pr → Pr) (id : Int) (l : List Pr) (t : Nat) : List Pr := chgL u id (l.take t) ++ l.drop t

theorem mix_zero (u : Pr → Pr) (id : Int) (l : List Pr) : mix u id l 0 = l := by simp [mix, chgL]

theorem mix_end (u : Pr → Pr) (id : Int) (l : List Pr) : mix u id l l.length = chgL u id l := by simp [mix]

theorem mix_len (u : Pr → Pr) (id : Int) (l : List Pr) (t : Nat) : (mix u id l t).length = l.length := by
  unfold mix
  rw [List.length_append, chgL_len, List.length_take, List.length_drop]
  omega

theorem mix_step {u : Pr → Pr} {id : Int} {l : List Pr} {t : Nat} (ht : t < l.length) : mix u id l (t + 1) = chgL u id (l.take t) ++ (if l[t].1 = id then u l[t] else l[t]) :: l.drop (t + 1) := by
  unfold mix
  rw [List.take_add_one, List.getElem?_eq_getElem ht, Option.toList_some]
  unfold chgL
  rw [List.map_append, List.append_assoc]
  rfl

theorem mix_split {u : Pr → Pr} {id : Int} {l : List Pr} {t : Nat} (ht : t < l.length) : mix u id l t = chgL u id (l.take t) ++ l[t] :: l.drop (t + 1) := by
  unfold mix
  rw [List.drop_eq_getElem_cons ht]

theorem mix_at {u : Pr → Pr} {id : Int} {l : List Pr} {t : Nat} (ht : t < l.length) : ∃ h : t < (mix u id l t).length, (mix u id l t)[t] = l[t] := by
  have h : t < (mix u id l t).length := by rw [mix_len]; exact ht
  refine ⟨h, ?_⟩
  have hl : (chgL u id (l.take t)).length = t := by rw [chgL_len, List.length_take]; omega
  have e := mix_split (u := u) (id := id) ht
  have : (mix u id l t)[t]? = some l[t] := by
    rw [e, List.getElem?_append_right (by omega), hl, Nat.sub_self]
    rfl
  rw [List.getElem?_eq_getElem h] at this
  exact Option.some.inj this

theorem mix_set {u : Pr → Pr} {id : Int} {l : List Pr} {t : Nat} (ht : t < l.length) (he : l[t].1 = id) : (mix u id l t).set t (u l[t]) = mix u id l (t + 1) := by
  have hl : (chgL u id (l.take t)).length = t := by rw [chgL_len, List.length_take]; omega
  rw [mix_step ht, if_pos he, mix_split ht, List.set_append, if_neg (by omega), hl, Nat.sub_self]
  rfl

theorem mix_keep {u : Pr → Pr} {id : Int} {l : List Pr} {t : Nat} (ht : t < l.length) (he : l[t].1 = id → u l[t] = l[t]) : mix u id l (t + 1) = mix u id l t := by
  rw [mix_step ht, mix_split ht]
  split
  · rw [he (by assumption)]
  · rfl

/-- Did one change? -/
theorem chg_did {l : List Pr} {f : Int → Option (Int × Int)} (h : Rel l f) {u : Pr → Pr} {g : Int × Int → Option (Int × Int)} {id : Int} (hu : Says u g id) (hb : ∀ x ∈ l, 0 ≤ x.2.1 ∧ x.2.1 < x.2.2) (hch : ∀ m nx q, 0 ≤ m → m < nx → g (m, nx - 1) = some q → (id, q.1, q.2 + 1) ≠ (id, m, nx)) :
    (chg g f id).1 = true ↔ ∃ x ∈ l, x.1 = id ∧ u x ≠ x := by
  unfold chg
  constructor
  · intro h1
    cases hf : f id with
    | none => rw [hf] at h1; cases h1
    | some p =>
      rw [hf] at h1
      simp only at h1
      have hmem : (id, p.1, p.2 + 1) ∈ l := (h.mem _ _ _).2 (by rw [hf]; simp)
      have hbp := hb _ hmem
      have hsm := hu.same p.1 (p.2 + 1) hbp.1 hbp.2
      have hpp : (p.1, p.2 + 1 - 1) = p := by simp
      rw [hpp] at hsm
      cases hg : g p with
      | none => rw [hg] at h1; cases h1
      | some q =>
        rw [hg] at hsm
        simp only at hsm
        exact ⟨_, hmem, rfl, by rw [hsm]; exact hch p.1 (p.2 + 1) q hbp.1 hbp.2 (by rw [hpp]; exact hg)⟩
  · rintro ⟨⟨i, m, nx⟩, hx, rfl, hne⟩
    have hf := (h.mem i m nx).1 hx
    have hbp := hb _ hx
    have hsm := hu.same m nx hbp.1 hbp.2
    rw [hf]
    simp only
    cases hg : g (m, nx - 1) with
    | none => rw [hg] at hsm; exact absurd hsm hne
    | some q => rfl

theorem ack_ch (index id : Int) : ∀ m nx q, 0 ≤ m → m < nx → ackP index (m, nx - 1) = some q → (id, q.1, q.2 + 1) ≠ (id, m, nx) := by
  intro m nx q h0 h1 h2 h3
  unfold ackP at h2
  split at h2
  · cases h2
  · cases h2
    simp only [Prod.mk.injEq, true_and] at h3
    omega

theorem back_ch (index hint id : Int) : ∀ m nx q, 0 ≤ m → m < nx → backP index hint (m, nx - 1) = some q → (id, q.1, q.2 + 1) ≠ (id, m, nx) := by
  intro m nx q h0 h1 h2 h3
  unfold backP at h2
  split at h2
  · cases h2
  · cases h2
    simp only [Prod.mk.injEq, true_and] at h3
    omega

/-- All that the law holds: the track, and the document's row. -/
structure ST (w : World) (gt gm n : Nat) (l : List Pr) (v : Value) (f : Int → Option (Int × Int)) (wr : World) : Prop where
  low : Below w.heap.size w wr
  trk : TrackAt wr gt gm n f
  row : PR w.heap.size l v wr
  high : w.heap.size ≤ gt ∧ w.heap.size ≤ gm

section
variable {w wr w' : World} {gt gm n : Nat} {l : List Pr} {v : Value} {f : Int → Option (Int × Int)}

theorem ST.ne (h : ST w gt gm n l v f wr) {g : Nat} (hg : v.ownBlock = some g) : g ≠ gt ∧ g ≠ gm := by
  rcases h.row.cells with ⟨-, rfl⟩ | ⟨g', cap, cur, rfl, -, -, hcur, -, -⟩
  · cases hg
  · cases hg
    refine ⟨fun e => ?_, fun e => ?_⟩
    · have := h.trk.box
      rw [← e, hcur] at this
      simp at this
    · obtain ⟨es, c, hb⟩ := h.trk.map.isMap
      rw [← e, hcur] at hb
      cases hb

theorem ST.next (h : ST w gt gm n l v f wr) (hb : Below wr.heap.size wr w') : ST w gt gm n l v f w' := ⟨h.low.trans (hb.mono h.low.size), h.trk.next hb, h.row.next hb, h.high⟩

/-- The track is told to track others. -/
theorem ST.only (h : ST w gt gm n l v f wr) (ho : Only (fun j => j = gt) wr w') {gs n' : Nat} {f' : Int → Option (Int × Int)} (hgs : wr.heap.size ≤ gs) (ht : TrackAt w' gt gs n' f') : ST w gt gs n' l v f' w' :=
  ⟨below_only h.low ho fun k hk => by rw [hk]; exact h.high.1, ht, h.row.same fun k hk => ho.block k (h.row.lt k hk).2 (h.ne hk).1, h.high.1, Nat.le_trans h.low.size hgs⟩

/-- .. or of an answer. -/
theorem ST.told (h : ST w gt gm n l v f wr) (ho : Only (fun j => j = gm) wr w') {n' : Nat} {f' : Int → Option (Int × Int)} (ht : TrackAt w' gt gm n' f') : ST w gt gm n' l v f' w' :=
  ⟨below_only h.low ho fun k hk => by rw [hk]; exact h.high.2, ht, h.row.same fun k hk => ho.block k (h.row.lt k hk).2 (h.ne hk).2, h.high⟩

/-- Another row. -/
theorem ST.rowed (h : ST w gt gm n l v f wr) {l' : List Pr} {v' : Value} (ho : OwnP wr l' v' w') : ST w gt gm n l' v' f w' :=
  ⟨h.low.trans (ho.1.mono h.low.size), h.trk.next ho.1, ho.2.lower h.low.size, h.high⟩

/-- A peer of the row is laid anew. -/
theorem ST.put {g N c : Nat} (h : ST w gt gm n l (.slice (some ⟨g, 0, none⟩) N c) f wr) (hn : N = l.length) {k : Nat} (hk : k < l.length) (fl : Nat) (x : Int) {p : Pr}
    (hp : (fl = 1 ∧ p = (l[k].1, x, l[k].2.2)) ∨ (fl = 2 ∧ p = (l[k].1, l[k].2.1, x))) : ST w gt gm n (l.set k p) (.slice (some ⟨g, 0, none⟩) N c) f (wr.setCell ⟨g, k * 3 + fl, none⟩ (.int .i64 x)) := by
  have hg := h.row.lt g rfl
  have hne := h.ne (g := g) rfl
  exact ⟨h.low.setCell hg.1 _, h.trk.same (Below.heap_setCell _ _ _ _ hne.1.symm) (Below.heap_setCell _ _ _ _ hne.2.symm), h.row.put hn hk fl x hp, h.high⟩
end

theorem ok_in {l : List Pr} (h : OkL l) : ∀ x ∈ l, In1 x.1 ∧ In1 x.2.1 := fun x hx => by
  have := h x hx
  exact ⟨this.1, by unfold In1; omega⟩

theorem ok_pos {l : List Pr} (h : OkL l) : ∀ x ∈ l, 0 ≤ x.2.1 ∧ x.2.1 < x.2.2 := fun x hx => ⟨(h x hx).2.1, (h x hx).2.2.1⟩

theorem ok_f {l : List Pr} {f : Int → Option (Int × Int)} (h : OkL l) (hr : Rel l f) {id : Int} {p : Int × Int} (hf : f id = some p) : 0 ≤ p.2 ∧ p.2 ≤ 1099511627776 := by
  have := h (id, p.1, p.2 + 1) ((hr.mem _ _ _).2 (by rw [hf]; simp))
  simp only at this
  omega

theorem there_of {l : List Pr} {f : Int → Option (Int × Int)} (hr : Rel l f) {id : Int} (h : f id ≠ none) : ∃ x ∈ l, x.1 = id := by
  cases hf : f id with
  | none => exact absurd hf h
  | some p => exact ⟨(id, p.1, p.2 + 1), (hr.mem _ _ _).2 (by rw [hf]; simp), rfl⟩
end Go.Proofs.Ytenpbcpdecnhmaa.M

/- Part: LawTaTracks. -/
namespace Go.Proofs.Ytenpbcpdecnhmaa.M
open Go.RowKit Go.Maps

theorem PR.at3 {base g N c : Nat} {l : List Pr} {w : World} (h : PR base l (.slice (some ⟨g, 0, none⟩) N c) w) (hN : N = l.length) {k : Nat} (hk : k < l.length) {x y z : Int} (he : l[k] = (x, y, z)) :
    (w.cell? ⟨g, k * 3, none⟩ = some (.int .i64 x) ∧ w.cell? ⟨g, k * 3 + 1, none⟩ = some (.int .i64 y) ∧ w.cell? ⟨g, k * 3 + 2, none⟩ = some (.int .i64 z)) ∧ (w.frozen? ⟨g, k * 3 + 1, none⟩ = false ∧ w.frozen? ⟨g, k * 3 + 2, none⟩ = false) ∧ g < w.heap.size := by
  subst hN
  obtain ⟨b, off, e, hF, f0, f1, f2⟩ := h.rep.elem k hk
  cases e
  rw [he] at f0 f1 f2
  simp only [Nat.zero_add] at f0 f1 f2
  exact ⟨⟨f0, f1, f2⟩, ⟨World.ownsRow.frozenAt h _, World.ownsRow.frozenAt h _⟩, hF.2⟩

theorem PR.at0 {base N c : Nat} {l : List Pr} {va : Option Addr} {w : World} (h : PR base l (.slice va N c) w) {k : Nat} (hk : k < l.length) : ∃ g, va = some ⟨g, 0, none⟩ := by
  rcases h.cells with ⟨hn, -⟩ | ⟨g, cap, cur, hv, -⟩
  · rw [hn] at hk; simp at hk
  · simp only [Value.slice.injEq] at hv
    exact ⟨g, hv.1⟩

theorem take_p {l : List Pr} {t : Nat} (ht : t < l.length) {p : Pr} (hp : l[t] = p) : l.take (t + 1) = l.take t ++ [p] := by
  rw [List.take_add_one, List.getElem?_eq_getElem ht, Option.toList_some, hp]

theorem did_keep {u : Pr → Pr} {id : Int} {l : List Pr} {t : Nat} (ht : t < l.length) {p : Pr} (hp : l[t] = p) (h : p.1 = id → u p = p) : (∃ x ∈ l.take (t + 1), x.1 = id ∧ u x ≠ x) ↔ ∃ x ∈ l.take t, x.1 = id ∧ u x ≠ x := by
  rw [take_p ht hp]
  constructor
  · rintro ⟨x, hx, h1, h2⟩
    rcases List.mem_append.1 hx with hx | hx
    · exact ⟨x, hx, h1, h2⟩
    · rw [List.mem_singleton.1 hx] at h1 h2
      exact absurd (h h1) h2
  · rintro ⟨x, hx, h1⟩
    exact ⟨x, List.mem_append_left _ hx, h1⟩

theorem did_there {u : Pr → Pr} {id : Int} {l : List Pr} {t : Nat} (ht : t < l.length) {p : Pr} (hp : l[t] = p) (h1 : p.1 = id) (h2 : u p ≠ p) : ∃ x ∈ l.take (t + 1), x.1 = id ∧ u x ≠ x := by
  rw [take_p ht hp]
  exact ⟨p, List.mem_append_right _ (List.mem_singleton.2 rfl), h1, h2⟩

theorem set_at {l : List Pr} {t : Nat} (ht : t < l.length) (p : Pr) : ∃ h : t < (l.set t p).length, (l.set t p)[t] = p := ⟨by rw [List.length_set]; exact ht, List.getElem_set_self _⟩

theorem trk6 {w : World} {g : Nat} {a b c d e f : Value} {t : TypeId} (h : w.heap[g]? = some (.cells #[a, b, c, d, e, f] t)) :
    (w.cell? ⟨g, 0, none⟩ = some a ∧ w.cell? ⟨g, 1, none⟩ = some b ∧ w.cell? ⟨g, 2, none⟩ = some c ∧ w.cell? ⟨g, 3, none⟩ = some d ∧ w.cell? ⟨g, 4, none⟩ = some e ∧ w.cell? ⟨g, 5, none⟩ = some f) ∧ g < w.heap.size :=
  ⟨⟨cell_of_row w g 0 _ t _ h, cell_of_row w g 1 _ t _ h, cell_of_row w g 2 _ t _ h, cell_of_row w g 3 _ t _ h, cell_of_row w g 4 _ t _ h, cell_of_row w g 5 _ t _ h⟩, lt_of_heap h⟩

set_option maxRecDepth 20000 in
set_option maxHeartbeats 12800000 in
theorem TallyTracks_any (last : Int) (hlast : In1 last) (ids : List Int) (acts : List Tk) (iv av : Value) (w : World) (hi : RepI w (fun k => k < w.heap.size) ids iv) (ha : RepKs w (fun k => k < w.heap.size) acts av) :
    Calls Try.prog 6 #[.int .i64 last, iv, av] w fun e w' => e = .returned (.bool true) ∧ Below w.heap.size w w' := by
  obtain ⟨ia, ic, rfl, hib⟩ := hi.slice
  obtain ⟨aa, ac, rfl, hab⟩ := ha.slice
  obtain ⟨n, hn⟩ : ∃ n, n = ids.length := ⟨_, rfl⟩
  obtain ⟨q, hq⟩ : ∃ q, q = acts.length := ⟨_, rfl⟩
  rw [← hn] at hi hib ⊢
  rw [← hq] at ha hab ⊢
  have HI := Lib.hid hi
  have HA := Lib.hid ha
  have HN := Lib.hid hn
  have HQ := Lib.hid hq
  have HL1 := Lib.hid hlast
  clear hi ha hn hq hlast
  go_enter Try.func6, Try.ntmps6
  go_wp2_with fail
  refine (awake9_any w).mono ?_
  rintro e w1 ⟨rfl, hb1⟩
  have HB1 := Lib.hid hb1
  clear hb1
  by_cases h1 : n > 30
  · have q1 : decide ((n : Int) > 30) = true := decide_eq_true (by omega)
    go_wp2_with fail
    refine (awake9_any _).mono ?_
    rintro e w5 ⟨rfl, hb5⟩
    have HB5 : Hid (Below w.heap.size w w5) := Lib.hid (HB1.out.trans (hb5.mono HB1.out.size))
    clear hb5
    go_wp2_with fail
    go_ret
    exact ⟨rfl, HB5.out⟩
  have q1 : decide ((n : Int) > 30) = false := decide_eq_false (by omega)
  by_cases h2 : q > 60
  · have q2 : decide ((q : Int) > 60) = true := decide_eq_true (by omega)
    go_wp2_with fail
    refine (awake9_any _).mono ?_
    rintro e w5 ⟨rfl, hb5⟩
    have HB5 : Hid (Below w.heap.size w w5) := Lib.hid (HB1.out.trans (hb5.mono HB1.out.size))
    clear hb5
    go_wp2_with fail
    go_ret
    exact ⟨rfl, HB5.out⟩
  have q2 : decide ((q : Int) > 60) = false := decide_eq_false (by omega)
  by_cases h3 : last > 1099511627776
  · have q3 : decide (last > 1099511627776) = true := decide_eq_true h3
    go_wp2_with fail
    refine (awake9_any _).mono ?_
    rintro e w5 ⟨rfl, hb5⟩
    have HB5 : Hid (Below w.heap.size w w5) := Lib.hid (HB1.out.trans (hb5.mono HB1.out.size))
    clear hb5
    go_wp2_with fail
    go_ret
    exact ⟨rfl, HB5.out⟩
  have q3 : decide (last > 1099511627776) = false := decide_eq_false h3
  have hlb : last ≤ 1099511627776 := by omega
  clear h3
  have hNT := NewTrack_any last ids (fun k => k < w.heap.size) (.slice ia n ic) w1 (HI.out.below (fun k hk => hk) HB1.out) (fun k hk => Nat.lt_of_lt_of_le hk HB1.out.size) (by rw [← HN.out]; omega)
  have HNT := Lib.hid hNT
  clear hNT
  go_wp2_with fail
  refine HNT.out.mono ?_
  rintro e w2 ⟨gt, gm, rfl, hb2, hgt, hgm, htr⟩
  have HB2 : Hid (Below w.heap.size w w2) := Lib.hid (HB1.out.trans (hb2.mono HB1.out.size))
  have HTR := Lib.hid htr
  have HGG : Hid (w.heap.size ≤ gt ∧ w.heap.size ≤ gm) := Lib.hid ⟨Nat.le_trans HB1.out.size hgt, Nat.le_trans HB1.out.size hgm⟩
  clear hb2 hgt hgm htr HNT
  have hRO := RefOnly_any [] noP last ids (fun k => k < w.heap.size) (fun _ => False) (.slice none 0 0) (.slice ia n ic) w2 Rel.nil (.inl ⟨rfl, Bare.nil⟩) (fun k hk => hk.elim) (by simp) hlb (HI.out.below (fun k hk => hk) HB2.out) (fun k hk => Nat.lt_of_lt_of_le hk HB2.out.size) (by rw [← HN.out]; omega)
  have HRO := Lib.hid hRO
  clear hRO
  go_wp2_with fail
  refine HRO.out.mono ?_
  rintro e w3 ⟨lv, l, rfl, hown, hrel, hlen⟩
  have HST : Hid (ST w gt gm n l lv (onlyP noP last ids) w3) := Lib.hid ⟨HB2.out.trans (hown.1.mono HB2.out.size), by rw [HN.out]; exact HTR.out.next hown.1, hown.2.lower HB2.out.size, HGG.out⟩
  have HOK : Hid (OkL l) := Lib.hid (OkL.only (l := []) (f := noP) (fun x hx => by simp at hx) Rel.nil hrel hlb HI.out.rng)
  have HREL := Lib.hid hrel
  have hl30 : l.length ≤ 30 := by rw [← HN.out] at hlen; omega
  clear hown hrel hlen HRO HTR HGG HB2
  go_wp2_with fail
  go_loopg [8, 9] q (fun gk v i wr => ∃ (z : Nat) (n' gm' : Nat) (l' : List Pr) (f' : Int → Option (Int × Int)), z + gk = q ∧ i = .int .i64 (z : Int) ∧ l'.length ≤ 30 ∧ n' ≤ 30 + z ∧ Hid (ST w gt gm' n' l' v f' wr ∧ Rel l' f' ∧ OkL l'))
  case atStart => exact ⟨0, n, gm, l, _, by omega, rfl, hl30, by omega, Lib.hid ⟨HST.out, HREL.out, HOK.out⟩⟩
  case round =>
    clear hl30 HOK HREL HST
    obtain ⟨z, n', gm', l', f', hz, rfl, hl30, hn', HS⟩ := hrel
    obtain ⟨va, vc, hv⟩ := HS.out.1.row.slice
    obtain ⟨ln, hln⟩ : ∃ ln, ln = l'.length := ⟨_, rfl⟩
    rw [← hln] at hv hl30
    subst hv
    have HLN := Lib.hid hln
    clear hln
    by_cases hlt : z < q
    · have hzz : (z : Int) < (q : Int) := by omega
      have hz2 : z < acts.length := by rw [← HQ.out]; exact hlt
      obtain ⟨ab, ao, rfl, hab2, x0, x1, x2, x3, x4, x5, e0, e1, e2, e3, e4, e5, rfl, rfl, rfl, rfl, rfl, hri, k0, k1, k2, k3, k4⟩ := (HA.out.below (fun k hk => hk) HS.out.1.low).elem z hz2
      obtain ⟨⟨kd, id, ix, ht, la, is⟩, hact⟩ : ∃ A, A = acts[z] := ⟨_, rfl⟩
      rw [← hact] at e0 e1 e2 e3 e4 hri k0 k1 k2 k3 k4
      simp only at e0 e1 e2 e3 e4 hri k0 k1 k2 k3 k4
      obtain ⟨sa, sc, rfl, hsb⟩ := hri.slice
      obtain ⟨sn, hsn⟩ : ∃ sn, sn = is.length := ⟨_, rfl⟩
      rw [← hsn] at e5 hri hsb
      obtain ⟨gA, hgA⟩ : ∃ gA, gA = wr.heap.size := ⟨_, rfl⟩
      obtain ⟨wa, hwa⟩ : ∃ wa, wa = wr.alloc (.cells #[.int .i64 kd, .int .i64 id, .int .i64 ix, .int .i64 ht, .int .i64 la, .slice sa sn sc] 50) := ⟨_, rfl⟩
      have hba : Below wr.heap.size wr wa := by rw [hwa]; exact below_alloc _ _
      have HXA : Hid (wa.heap[gA]? = some (.cells #[.int .i64 kd, .int .i64 id, .int .i64 ix, .int .i64 ht, .int .i64 la, .slice sa sn sc] 50)) := Lib.hid (by rw [hwa]; exact heap_new _ _ _ hgA)
      have HSA : Hid (ST w gt gm' n' l' (.slice va ln vc) f' wa) := Lib.hid (HS.out.1.next hba)
      have HSR : Hid (Rel l' f' ∧ OkL l') := Lib.hid HS.out.2
      have HGA : Hid (gA = wr.heap.size ∧ gA ≠ gt ∧ gA ≠ gm' ∧ (Value.slice va ln vc).ownBlock ≠ some gA ∧ gA < wa.heap.size) := Lib.hid ⟨hgA, by have := HS.out.1.trk.lt; omega, by have := HS.out.1.trk.lt; omega, fun e => by have := HS.out.1.row.lt gA e; omega, lt_of_heap HXA.out⟩
      have HRI : Hid (RepI wa (fun k => k < w.heap.size) is (.slice sa sn sc)) := Lib.hid (hri.below (fun k hk => Nat.lt_of_lt_of_le hk HS.out.1.low.size) hba)
      have HKK : Hid (In1 kd ∧ In1 id ∧ In1 ix ∧ In1 ht ∧ In1 la) := Lib.hid ⟨k0, k1, k2, k3, k4⟩
      have HWA := Lib.hid hwa
      have HGE := Lib.hid hgA
      have HSN := Lib.hid hsn
      clear hact hri k0 k1 k2 k3 k4 hsn hgA hwa hba hab2 hz2 HS
      go_upto_region 11 with fail
      rw [← HWA.out, ← HGE.out]
      obtain ⟨⟨c0, c1, c2, c3, c4, c5⟩, cz⟩ := trk6 HXA.out
      clear e0 e1 e2 e3 e4 e5
      by_cases g1 : ix > 1099511627776
      · have p1 : decide (ix > 1099511627776) = true := decide_eq_true g1
        go_wp2_with fail
        go_ret
        exact ⟨rfl, HSA.out.low⟩
      have p1 : decide (ix > 1099511627776) = false := decide_eq_false g1
      by_cases g2 : ht > 1099511627776
      · have p2 : decide (ht > 1099511627776) = true := decide_eq_true g2
        go_wp2_with fail
        go_ret
        exact ⟨rfl, HSA.out.low⟩
      have p2 : decide (ht > 1099511627776) = false := decide_eq_false g2
      by_cases g3 : la > 1099511627776
      · have p3 : decide (la > 1099511627776) = true := decide_eq_true g3
        go_wp2_with fail
        go_ret
        exact ⟨rfl, HSA.out.low⟩
      have p3 : decide (la > 1099511627776) = false := decide_eq_false g3
      by_cases g4 : sn > 30
      · have p4 : decide ((sn : Int) > 30) = true := decide_eq_true (by omega)
        go_wp2_with fail
        go_ret
        exact ⟨rfl, HSA.out.low⟩
      have p4 : decide ((sn : Int) > 30) = false := decide_eq_false (by omega)
      have HBD : Hid (ix ≤ 1099511627776 ∧ ht ≤ 1099511627776 ∧ la ≤ 1099511627776 ∧ sn ≤ 30) := Lib.hid ⟨by omega, by omega, by omega, by omega⟩
      clear g1 g2 g3
      go_upto_block 2 with fail
      go_cut [8, 11, 12, 13, 71, 72, 86] from 73 to 196 (fun v _ _ _ _ _ _ w' => ∃ (n'' gm'' : Nat) (l'' : List Pr) (f'' : Int → Option (Int × Int)), l''.length ≤ 30 ∧ n'' ≤ 30 + (z + 1) ∧ Hid (ST w gt gm'' n'' l'' v f'' w' ∧ Rel l'' f'' ∧ OkL l'' ∧ w'.heap[gA]? = some (.cells #[.int .i64 kd, .int .i64 id, .int .i64 ix, .int .i64 ht, .int .i64 la, .slice sa sn sc] 50)))
      case first =>
        by_cases y0 : kd = 0
        · as_aux_lemma =>
            have p5 : (kd == 0) = true := by simp [y0]
            have HON := Only_any gt n' (.map (some gm')) f' la is (fun k => k < w.heap.size) (.slice sa sn sc) wa HSA.out.trk.box (.inr ⟨gm', rfl, HSA.out.trk.map⟩) HRI.out (fun k hk => Nat.lt_of_lt_of_le hk HSA.out.low.size) (by rw [← HSN.out]; omega)
            have HON := Lib.hid HON
            clear y0
            go_wp2_with fail
            refine HON.out.mono ?_
            rintro e w4 ⟨rfl, ho4, gs, hgs, ht4⟩
            have HST4 : Hid (ST w gt gs is.length l' (.slice va ln vc) (onlyP f' la is) w4) := Lib.hid (HSA.out.only ho4 hgs ht4)
            have HX4 : Hid (w4.heap[gA]? = some (.cells #[.int .i64 kd, .int .i64 id, .int .i64 ix, .int .i64 ht, .int .i64 la, .slice sa sn sc] 50)) := Lib.hid ((ho4.block gA HGA.out.2.2.2.2 HGA.out.2.1).trans HXA.out)
            have HRI4 : Hid (RepI w4 (fun k => k < w.heap.size) is (.slice sa sn sc)) := Lib.hid (HRI.out.same (fun _ h => h) fun k hk => ho4.block k (Nat.lt_of_lt_of_le hk HSA.out.low.size) (by have := HSA.out.high.1; omega))
            have HRO := Lib.hid (RefOnly_any l' f' la is (fun k => k < w.heap.size) (fun b => w.heap.size ≤ b ∧ b < w4.heap.size) (.slice va ln vc) (.slice sa sn sc) w4 HSR.out.1 HST4.out.row.rep (fun k hk => hk.2) (by rw [← HLN.out]; omega) HBD.out.2.2.1 HRI4.out (fun k hk => Nat.lt_of_lt_of_le hk HST4.out.low.size) (by rw [← HSN.out]; omega))
            clear ho4 hgs ht4 HON
            clear c0 c1 c2 c3 c4 c5 cz
            obtain ⟨⟨c0, c1, c2, c3, c4, c5⟩, cz⟩ := trk6 HX4.out
            go_wp2_with fail
            refine HRO.out.mono ?_
            rintro e w5 ⟨lv5, l5, rfl, hown5, hrel5, hlen5⟩
            have HEND : Hid (l5.length ≤ 30 ∧ is.length ≤ 30 ∧ ST w gt gs is.length l5 lv5 (onlyP f' la is) w5 ∧ Rel l5 (onlyP f' la is) ∧ OkL l5 ∧ w5.heap[gA]? = some (.cells #[.int .i64 kd, .int .i64 id, .int .i64 ix, .int .i64 ht, .int .i64 la, .slice sa sn sc] 50)) := Lib.hid ⟨by have := HBD.out.2.2.2; rw [HSN.out] at this; omega, by have := HBD.out.2.2.2; rw [HSN.out] at this; omega, HST4.out.rowed hown5, hrel5, OkL.only HSR.out.2 HSR.out.1 hrel5 HBD.out.2.2.1 HRI4.out.rng, old_below HX4.out hown5.1⟩
            clear hown5 hrel5 hlen5 HRO
            go_wp2_with fail
            go_meet
            case rel => exact ⟨is.length, gs, l5, _, HEND.out.1, by have := HEND.out.2.1; omega, Lib.hid HEND.out.2.2⟩
        have p5 : (kd == 0) = false := by simpa using y0
        by_cases y1 : kd = 1
        · as_aux_lemma =>
            have p6 : (kd == 1) = true := by simp [y1]
            have p7 : (kd == 2) = false := by simp [y1]
            clear y1
            clear y0
            go_wp2_with fail
            go_loopg [11, 12] ln (fun gk wt k wr => ∃ (t : Nat) (wb : Bool), t + gk = ln ∧ wt = .bool wb ∧ k = .int .i64 (t : Int) ∧ Hid ((wb = true ↔ ∃ x ∈ l'.take t, x.1 = id ∧ (ackU ix) x ≠ x) ∧ ST w gt gm' n' (mix (ackU ix) id l' t) (.slice va ln vc) f' wr ∧ wr.heap[gA]? = some (.cells #[.int .i64 kd, .int .i64 id, .int .i64 ix, .int .i64 ht, .int .i64 la, .slice sa sn sc] 50)))
            case atStart => exact ⟨0, false, by omega, rfl, rfl, Lib.hid ⟨by simp, by rw [mix_zero]; exact HSA.out, HXA.out⟩⟩
            case round =>
              clear c0 c1 c2 c3 c4 c5 cz
              obtain ⟨t, wb, ht1, rfl, rfl, HT⟩ := hrel
              obtain ⟨⟨c0, c1, c2, c3, c4, c5⟩, cz⟩ := trk6 HT.out.2.2
              by_cases hlt2 : t < ln
              · have htt : (t : Int) < (ln : Int) := by omega
                have HLM : Hid (ln = (mix (ackU ix) id l' t).length) := Lib.hid (by rw [mix_len, HLN.out])
                have HTL : Hid (t < (mix (ackU ix) id l' t).length) := Lib.hid (by rw [← HLM.out]; exact hlt2)
                have HTI : Hid (t < l'.length) := Lib.hid (by rw [← HLN.out]; exact hlt2)
                obtain ⟨⟨pa, pb, pc⟩, hpp⟩ : ∃ pp, pp = l'[t]'HTI.out := ⟨_, rfl⟩
                have HMA : Hid ((mix (ackU ix) id l' t)[t]'HTL.out = (pa, pb, pc)) := Lib.hid (by obtain ⟨h, e⟩ := mix_at (u := ackU ix) (id := id) HTI.out; rw [hpp]; exact e)
                have HTP : Hid (l'[t]'HTI.out = (pa, pb, pc)) := Lib.hid hpp.symm
                have HOKP : Hid (0 ≤ pb ∧ pb < pc ∧ pc ≤ 1099511627777) := Lib.hid (by have := HSR.out.2 (pa, pb, pc) (by rw [hpp]; exact List.getElem_mem _); exact this.2)
                clear hpp
                obtain ⟨lb, hva⟩ := HT.out.2.1.row.at0 HTL.out
                subst hva
                have HLG : Hid (lb ≠ gA) := Lib.hid fun e => HGA.out.2.2.2.1 (by rw [← e]; rfl)
                obtain ⟨⟨f0, f1, f2⟩, ⟨z1, z2⟩, fz⟩ := HT.out.2.1.row.at3 HLM.out HTL.out HMA.out
                by_cases he : pa = id
                · have q1 : (pa != id) = false := by simp [he]
                  go_wp2_with fail
                  go_quiet (fail)
                  obtain ⟨w7, hw7⟩ : ∃ w', w' = wr.drewN nq := ⟨_, rfl⟩
                  have hb7 : Below wr.heap.size wr w7 := by rw [hw7]; exact below_drewN _ _
                  rw [← hw7]
                  have HT7 := Lib.hid (And.intro HT.out.1 (And.intro (HT.out.2.1.next hb7) (old_below HT.out.2.2 hb7)))
                  clear hw7 hb7 c0 c1 c2 c3 c4 c5 cz f0 f1 f2 z1 z2 fz
                  obtain ⟨⟨c0, c1, c2, c3, c4, c5⟩, cz⟩ := trk6 HT7.out.2.2
                  obtain ⟨⟨f0, f1, f2⟩, ⟨z1, z2⟩, fz⟩ := HT7.out.2.1.row.at3 HLM.out HTL.out HMA.out
                  by_cases hx : ix > pb
                  · have q2 : decide (ix > pb) = true := decide_eq_true hx
                    have HW1 : Hid (IntKind.i64.wrap (ix + 1) = ix + 1) := Lib.hid (IntWalk.i64_in _ (by have := HKK.out.2.2.1; have := HBD.out.1; unfold In1 at *; omega))
                    have HU : Hid ((pa, pb, pc).1 = id ∧ ackU ix (pa, pb, pc) = (pa, ix, max pc (ix + 1)) ∧ ackU ix (pa, pb, pc) ≠ (pa, pb, pc)) := Lib.hid (by
                      have e1 : ackU ix (pa, pb, pc) = (pa, ix, max pc (ix + 1)) := by unfold ackU; exact if_pos hx
                      refine ⟨he, e1, ?_⟩
                      rw [e1]
                      intro e
                      simp only [Prod.mk.injEq] at e
                      omega)
                    clear he hx
                    go_wp2_with fail
                    go_quiet (fail)
                    obtain ⟨w8, hw7⟩ : ∃ w', w' = w7.drewN nq := ⟨_, rfl⟩
                    have hb7 : Below w7.heap.size w7 w8 := by rw [hw7]; exact below_drewN _ _
                    rw [← hw7]
                    have HT8 := Lib.hid (And.intro HT7.out.1 (And.intro (HT7.out.2.1.next hb7) (old_below HT7.out.2.2 hb7)))
                    clear hw7 hb7 c0 c1 c2 c3 c4 c5 cz f0 f1 f2 z1 z2 fz
                    obtain ⟨⟨c0, c1, c2, c3, c4, c5⟩, cz⟩ := trk6 HT8.out.2.2
                    obtain ⟨⟨f0, f1, f2⟩, ⟨z1, z2⟩, fz⟩ := HT8.out.2.1.row.at3 HLM.out HTL.out HMA.out
                    have HN1 := Lib.hid (HT8.out.2.1.put (k := t) HLM.out HTL.out 1 ix (p := (pa, ix, pc)) (.inl ⟨rfl, by rw [HMA.out]⟩))
                    have HX1 : Hid ((w8.setCell ⟨lb, t * 3 + 1, none⟩ (.int .i64 ix)).heap[gA]? = some (.cells #[.int .i64 kd, .int .i64 id, .int .i64 ix, .int .i64 ht, .int .i64 la, .slice sa sn sc] 50)) := Lib.hid ((Below.heap_setCell _ _ _ _ HLG.out.symm).trans HT8.out.2.2)
                    go_wp2_with fail
                    obtain ⟨w9, hw9⟩ : ∃ w', w' = w8.setCell ⟨lb, t * 3 + 1, none⟩ (.int .i64 ix) := ⟨_, rfl⟩
                    rw [← hw9] at HN1 HX1 ⊢
                    have HS1 : Hid (t < ((mix (ackU ix) id l' t).set t (pa, ix, pc)).length ∧ ln = ((mix (ackU ix) id l' t).set t (pa, ix, pc)).length) := Lib.hid (by rw [List.length_set]; exact ⟨HTL.out, HLM.out⟩)
                    have HM1 : Hid (((mix (ackU ix) id l' t).set t (pa, ix, pc))[t]'HS1.out.1 = (pa, ix, pc)) := Lib.hid (List.getElem_set_self _)
                    clear hw9 c0 c1 c2 c3 c4 c5 cz f0 f1 f2 z1 z2 fz
                    obtain ⟨⟨c0, c1, c2, c3, c4, c5⟩, cz⟩ := trk6 HX1.out
                    obtain ⟨⟨f0, f1, f2⟩, ⟨z1, z2⟩, fz⟩ := HN1.out.row.at3 HS1.out.2 HS1.out.1 HM1.out
                    have hw1 := HW1.out
                    go_region
                    have HN2 := Lib.hid ((HN1.out.put (k := t) HS1.out.2 HS1.out.1 2 (max pc (ix + 1)) (p := (pa, ix, max pc (ix + 1))) (.inr ⟨rfl, by rw [HM1.out]⟩)).next (Below.refl _ _).drew)
                    have HX2 : Hid ((w9.setCell ⟨lb, t * 3 + 2, none⟩ (.int .i64 (max pc (ix + 1)))).drew.heap[gA]? = some (.cells #[.int .i64 kd, .int .i64 id, .int .i64 ix, .int .i64 ht, .int .i64 la, .slice sa sn sc] 50)) := Lib.hid ((Below.heap_setCell _ _ _ _ HLG.out.symm).trans HX1.out)
                    obtain ⟨w10, hw10⟩ : ∃ w', w' = (w9.setCell ⟨lb, t * 3 + 2, none⟩ (.int .i64 (max pc (ix + 1)))).drew := ⟨_, rfl⟩
                    rw [← hw10] at HN2 HX2 ⊢
                    clear hw10 hw1 c0 c1 c2 c3 c4 c5 cz f0 f1 f2 z1 z2 fz
                    go_wp2_with fail
                    go_roundg (ln - (t + 1))
                    case measure => omega
                    case rel => exact ⟨t + 1, true, by omega, rfl, by go_num, Lib.hid ⟨⟨fun _ => did_there HTI.out HTP.out HU.out.1 HU.out.2.2, fun _ => rfl⟩, by
                      have e := mix_set (u := ackU ix) (id := id) HTI.out (by rw [HTP.out]; exact HU.out.1)
                      rw [HTP.out, HU.out.2.1] at e
                      rw [← e]
                      have h := HN2.out
                      rw [List.set_set] at h
                      exact h, HX2.out⟩⟩
                  · have q2 : decide (ix > pb) = false := decide_eq_false hx
                    have HU : Hid ((pa, pb, pc).1 = id → ackU ix (pa, pb, pc) = (pa, pb, pc)) := Lib.hid fun _ => by unfold ackU; exact if_neg hx
                    clear he hx
                    go_wp2_with fail
                    go_quiet (fail)
                    obtain ⟨w8, hw7⟩ : ∃ w', w' = w7.drewN nq := ⟨_, rfl⟩
                    have hb7 : Below w7.heap.size w7 w8 := by rw [hw7]; exact below_drewN _ _
                    rw [← hw7]
                    have HT8 := Lib.hid (And.intro HT7.out.1 (And.intro (HT7.out.2.1.next hb7) (old_below HT7.out.2.2 hb7)))
                    clear hw7 hb7 c0 c1 c2 c3 c4 c5 cz f0 f1 f2 z1 z2 fz
                    obtain ⟨⟨c0, c1, c2, c3, c4, c5⟩, cz⟩ := trk6 HT8.out.2.2
                    obtain ⟨⟨f0, f1, f2⟩, ⟨z1, z2⟩, fz⟩ := HT8.out.2.1.row.at3 HLM.out HTL.out HMA.out
                    go_wp2_with fail
                    go_quiet (fail)
                    obtain ⟨w9, hw7⟩ : ∃ w', w' = w8.drewN nq := ⟨_, rfl⟩
                    have hb7 : Below w8.heap.size w8 w9 := by rw [hw7]; exact below_drewN _ _
                    rw [← hw7]
                    have HT9 := Lib.hid (And.intro HT8.out.1 (And.intro (HT8.out.2.1.next hb7) (old_below HT8.out.2.2 hb7)))
                    clear hw7 hb7 c0 c1 c2 c3 c4 c5 cz f0 f1 f2 z1 z2 fz
                    obtain ⟨⟨c0, c1, c2, c3, c4, c5⟩, cz⟩ := trk6 HT9.out.2.2
                    obtain ⟨⟨f0, f1, f2⟩, ⟨z1, z2⟩, fz⟩ := HT9.out.2.1.row.at3 HLM.out HTL.out HMA.out
                    go_wp2_with fail
                    go_roundg (ln - (t + 1))
                    case measure => omega
                    case rel => exact ⟨t + 1, wb, by omega, rfl, by go_num, Lib.hid ⟨HT9.out.1.trans (did_keep HTI.out HTP.out HU.out).symm, by rw [mix_keep HTI.out (fun e => by rw [HTP.out] at e ⊢; exact HU.out e)]; exact HT9.out.2.1, HT9.out.2.2⟩⟩
                · have q1 : (pa != id) = true := by simpa using he
                  have HU : Hid ((pa, pb, pc).1 = id → (ackU ix) (pa, pb, pc) = (pa, pb, pc)) := Lib.hid fun e => absurd e he
                  clear he
                  go_wp2_with fail
                  go_quiet (fail)
                  obtain ⟨w7, hw7⟩ : ∃ w', w' = wr.drewN nq := ⟨_, rfl⟩
                  have hb7 : Below wr.heap.size wr w7 := by rw [hw7]; exact below_drewN _ _
                  rw [← hw7]
                  have HT7 := Lib.hid (And.intro HT.out.1 (And.intro (HT.out.2.1.next hb7) (old_below HT.out.2.2 hb7)))
                  clear hw7 hb7 c0 c1 c2 c3 c4 c5 cz f0 f1 f2 z1 z2 fz
                  obtain ⟨⟨c0, c1, c2, c3, c4, c5⟩, cz⟩ := trk6 HT7.out.2.2
                  obtain ⟨⟨f0, f1, f2⟩, ⟨z1, z2⟩, fz⟩ := HT7.out.2.1.row.at3 HLM.out HTL.out HMA.out
                  go_wp2_with fail
                  go_roundg (ln - (t + 1))
                  case measure => omega
                  case rel => exact ⟨t + 1, wb, by omega, rfl, by go_num, Lib.hid ⟨HT7.out.1.trans (did_keep HTI.out HTP.out HU.out).symm, by rw [mix_keep HTI.out (fun e => by rw [HTP.out] at e ⊢; exact HU.out e)]; exact HT7.out.2.1, HT7.out.2.2⟩⟩
              · obtain rfl : t = ln := by omega
                have htt : ¬ ((t : Nat) : Int) < (t : Int) := by omega
                have HTE : Hid ((wb = true ↔ ∃ x ∈ l', x.1 = id ∧ (ackU ix) x ≠ x) ∧ ST w gt gm' n' (chgL (ackU ix) id l') (.slice va t vc) f' wr) := Lib.hid ⟨by have := HT.out.1; rw [HLN.out, List.take_length] at this; exact this, by have := HT.out.2.1; rw [show t = l'.length from HLN.out, mix_end] at this; rw [show t = l'.length from HLN.out]; exact this⟩
                have HXT := Lib.hid HT.out.2.2
                have HCALL := Lib.hid (Ack_any gt gm' n' f' id ix HKK.out.2.1 wr HTE.out.2.trk (by omega))
                have HDID : Hid ((chg (ackP ix) f' id).1 = wb) := Lib.hid (by
                  have h1 := chg_did HSR.out.1 (ack_says ix id) (ok_pos HSR.out.2) (ack_ch ix id)
                  have h2 := HTE.out.1
                  cases hb : (chg (ackP ix) f' id).1 <;> cases hw : wb <;> simp only [hb, hw, Bool.false_eq_true, true_iff, false_iff] at h1 h2 ⊢
                  · exact absurd h2 h1
                  · exact absurd h1 h2)
                have qn : (wb != wb) = false := by simp
                clear HT
                go_wp2_with fail
                refine HCALL.out.mono ?_
                rintro e w9 ⟨rfl, ho9, ht9⟩
                rw [HDID.out]
                have HEND : Hid (ST w gt gm' (n' + 1) (chgL (ackU ix) id l') (.slice va t vc) (chg (ackP ix) f' id).2 w9 ∧ Rel (chgL (ackU ix) id l') (chg (ackP ix) f' id).2 ∧ OkL (chgL (ackU ix) id l') ∧ w9.heap[gA]? = some (.cells #[.int .i64 kd, .int .i64 id, .int .i64 ix, .int .i64 ht, .int .i64 la, .slice sa sn sc] 50)) := Lib.hid ⟨HTE.out.2.told ho9 ht9, HSR.out.1.changed (ack_says ix id) (ok_pos HSR.out.2), HSR.out.2.ack HBD.out.1 id, (ho9.block gA (lt_of_heap HXT.out) HGA.out.2.2.1).trans HXT.out⟩
                clear ho9 ht9
                go_wp2_with fail
                go_meet
                case rel => exact ⟨n' + 1, gm', chgL (ackU ix) id l', _, by rw [chgL_len, ← HLN.out]; exact hl30, by omega, HEND⟩
        have p6 : (kd == 1) = false := by simpa using y1
        by_cases y2 : kd = 2
        · as_aux_lemma =>
            have p7 : (kd == 2) = true := by simp [y2]
            clear y1 y2
            clear y0
            go_wp2_with fail
            go_loopg [11, 12] ln (fun gk wt k wr => ∃ (t : Nat) (wb : Bool), t + gk = ln ∧ wt = .bool wb ∧ k = .int .i64 (t : Int) ∧ Hid ((wb = true ↔ ∃ x ∈ l'.take t, x.1 = id ∧ (backU ix ht) x ≠ x) ∧ ST w gt gm' n' (mix (backU ix ht) id l' t) (.slice va ln vc) f' wr ∧ wr.heap[gA]? = some (.cells #[.int .i64 kd, .int .i64 id, .int .i64 ix, .int .i64 ht, .int .i64 la, .slice sa sn sc] 50)))
            case atStart => exact ⟨0, false, by omega, rfl, rfl, Lib.hid ⟨by simp, by rw [mix_zero]; exact HSA.out, HXA.out⟩⟩
            case round =>
              clear c0 c1 c2 c3 c4 c5 cz
              obtain ⟨t, wb, ht1, rfl, rfl, HT⟩ := hrel
              obtain ⟨⟨c0, c1, c2, c3, c4, c5⟩, cz⟩ := trk6 HT.out.2.2
              by_cases hlt2 : t < ln
              · have htt : (t : Int) < (ln : Int) := by omega
                have HLM : Hid (ln = (mix (backU ix ht) id l' t).length) := Lib.hid (by rw [mix_len, HLN.out])
                have HTL : Hid (t < (mix (backU ix ht) id l' t).length) := Lib.hid (by rw [← HLM.out]; exact hlt2)
                have HTI : Hid (t < l'.length) := Lib.hid (by rw [← HLN.out]; exact hlt2)
                obtain ⟨⟨pa, pb, pc⟩, hpp⟩ : ∃ pp, pp = l'[t]'HTI.out := ⟨_, rfl⟩
                have HMA : Hid ((mix (backU ix ht) id l' t)[t]'HTL.out = (pa, pb, pc)) := Lib.hid (by obtain ⟨h, e⟩ := mix_at (u := backU ix ht) (id := id) HTI.out; rw [hpp]; exact e)
                have HTP : Hid (l'[t]'HTI.out = (pa, pb, pc)) := Lib.hid hpp.symm
                have HOKP : Hid (0 ≤ pb ∧ pb < pc ∧ pc ≤ 1099511627777) := Lib.hid (by have := HSR.out.2 (pa, pb, pc) (by rw [hpp]; exact List.getElem_mem _); exact this.2)
                clear hpp
                obtain ⟨lb, hva⟩ := HT.out.2.1.row.at0 HTL.out
                subst hva
                have HLG : Hid (lb ≠ gA) := Lib.hid fun e => HGA.out.2.2.2.1 (by rw [← e]; rfl)
                obtain ⟨⟨f0, f1, f2⟩, ⟨z1, z2⟩, fz⟩ := HT.out.2.1.row.at3 HLM.out HTL.out HMA.out
                by_cases he : pa = id
                · have q1 : (pa != id) = false := by simp [he]
                  go_wp2_with fail
                  go_quiet (fail)
                  obtain ⟨w7, hw7⟩ : ∃ w', w' = wr.drewN nq := ⟨_, rfl⟩
                  have hb7 : Below wr.heap.size wr w7 := by rw [hw7]; exact below_drewN _ _
                  rw [← hw7]
                  have HT7 := Lib.hid (And.intro HT.out.1 (And.intro (HT.out.2.1.next hb7) (old_below HT.out.2.2 hb7)))
                  clear hw7 hb7 c0 c1 c2 c3 c4 c5 cz f0 f1 f2 z1 z2 fz
                  obtain ⟨⟨c0, c1, c2, c3, c4, c5⟩, cz⟩ := trk6 HT7.out.2.2
                  obtain ⟨⟨f0, f1, f2⟩, ⟨z1, z2⟩, fz⟩ := HT7.out.2.1.row.at3 HLM.out HTL.out HMA.out
                  go_wp2_with fail
                  go_quiet (fail)
                  obtain ⟨w8, hw7⟩ : ∃ w', w' = w7.drewN nq := ⟨_, rfl⟩
                  have hb7 : Below w7.heap.size w7 w8 := by rw [hw7]; exact below_drewN _ _
                  rw [← hw7]
                  have HT8 := Lib.hid (And.intro HT7.out.1 (And.intro (HT7.out.2.1.next hb7) (old_below HT7.out.2.2 hb7)))
                  clear hw7 hb7 c0 c1 c2 c3 c4 c5 cz f0 f1 f2 z1 z2 fz
                  obtain ⟨⟨c0, c1, c2, c3, c4, c5⟩, cz⟩ := trk6 HT8.out.2.2
                  obtain ⟨⟨f0, f1, f2⟩, ⟨z1, z2⟩, fz⟩ := HT8.out.2.1.row.at3 HLM.out HTL.out HMA.out
                  go_wp2_with fail
                  have hw1 : IntKind.i64.wrap (pc - 1) = pc - 1 := IntWalk.i64_in _ (by have := HOKP.out; omega)
                  by_cases hx : ix = pc - 1
                  · have q2 : (ix == pc - 1) = true := by rw [beq_iff_eq]; exact hx
                    by_cases hy : ix > pb
                    · have q3 : decide (ix > pb) = true := decide_eq_true hy
                      have HU : Hid ((pa, pb, pc).1 = id ∧ backU ix ht (pa, pb, pc) = (pa, pb, max (min ix (max ht 0 + 1)) (pb + 1)) ∧ backU ix ht (pa, pb, pc) ≠ (pa, pb, pc)) := Lib.hid (by
                        have e1 : backU ix ht (pa, pb, pc) = (pa, pb, max (min ix (max ht 0 + 1)) (pb + 1)) := by unfold backU; exact if_pos ⟨hx, hy⟩
                        refine ⟨he, e1, ?_⟩
                        rw [e1]
                        intro e
                        simp only [Prod.mk.injEq, true_and] at e
                        omega)
                      have HW2 : Hid (IntKind.i64.wrap (max ht 0 + 1) = max ht 0 + 1 ∧ IntKind.i64.wrap (pb + 1) = pb + 1) := Lib.hid ⟨IntWalk.i64_in _ (by have := HBD.out.2.1; omega), IntWalk.i64_in _ (by have := HOKP.out; omega)⟩
                      clear he hx hy
                      go_quiet (fail)
                      obtain ⟨w9, hw7⟩ : ∃ w', w' = w8.drewN nq := ⟨_, rfl⟩
                      have hb7 : Below w8.heap.size w8 w9 := by rw [hw7]; exact below_drewN _ _
                      rw [← hw7]
                      have HT9 := Lib.hid (And.intro HT8.out.1 (And.intro (HT8.out.2.1.next hb7) (old_below HT8.out.2.2 hb7)))
                      clear hw7 hb7 c0 c1 c2 c3 c4 c5 cz f0 f1 f2 z1 z2 fz
                      obtain ⟨⟨c0, c1, c2, c3, c4, c5⟩, cz⟩ := trk6 HT9.out.2.2
                      obtain ⟨⟨f0, f1, f2⟩, ⟨z1, z2⟩, fz⟩ := HT9.out.2.1.row.at3 HLM.out HTL.out HMA.out
                      go_wp2_with fail
                      have hw2 := HW2.out.1
                      have hw3 := HW2.out.2
                      go_region
                      have HN2 := Lib.hid ((HT9.out.2.1.put (k := t) HLM.out HTL.out 2 (max (min ix (max ht 0 + 1)) (pb + 1)) (p := (pa, pb, max (min ix (max ht 0 + 1)) (pb + 1))) (.inr ⟨rfl, by rw [HMA.out]⟩)).next (Below.refl _ _).drew)
                      have HX2 : Hid ((w9.setCell ⟨lb, t * 3 + 2, none⟩ (.int .i64 (max (min ix (max ht 0 + 1)) (pb + 1)))).drew.heap[gA]? = some (.cells #[.int .i64 kd, .int .i64 id, .int .i64 ix, .int .i64 ht, .int .i64 la, .slice sa sn sc] 50)) := Lib.hid ((Below.heap_setCell _ _ _ _ HLG.out.symm).trans HT9.out.2.2)
                      obtain ⟨w10, hw10⟩ : ∃ w', w' = (w9.setCell ⟨lb, t * 3 + 2, none⟩ (.int .i64 (max (min ix (max ht 0 + 1)) (pb + 1)))).drew := ⟨_, rfl⟩
                      rw [← hw10] at HN2 HX2 ⊢
                      clear hw10 hw1 hw2 hw3 c0 c1 c2 c3 c4 c5 cz f0 f1 f2 z1 z2 fz
                      go_wp2_with fail
                      go_roundg (ln - (t + 1))
                      case measure => omega
                      case rel => exact ⟨t + 1, true, by omega, rfl, by go_num, Lib.hid ⟨⟨fun _ => did_there HTI.out HTP.out HU.out.1 HU.out.2.2, fun _ => rfl⟩, by
                        have e := mix_set (u := backU ix ht) (id := id) HTI.out (by rw [HTP.out]; exact HU.out.1)
                        rw [HTP.out, HU.out.2.1] at e
                        rw [← e]
                        exact HN2.out, HX2.out⟩⟩
                    · have q3 : decide (ix > pb) = false := decide_eq_false hy
                      have HU : Hid ((pa, pb, pc).1 = id → backU ix ht (pa, pb, pc) = (pa, pb, pc)) := Lib.hid fun _ => by unfold backU; exact if_neg fun h => hy h.2
                      clear he hx hy
                      go_quiet (fail)
                      obtain ⟨w9, hw7⟩ : ∃ w', w' = w8.drewN nq := ⟨_, rfl⟩
                      have hb7 : Below w8.heap.size w8 w9 := by rw [hw7]; exact below_drewN _ _
                      rw [← hw7]
                      have HT9 := Lib.hid (And.intro HT8.out.1 (And.intro (HT8.out.2.1.next hb7) (old_below HT8.out.2.2 hb7)))
                      clear hw7 hb7 c0 c1 c2 c3 c4 c5 cz f0 f1 f2 z1 z2 fz
                      obtain ⟨⟨c0, c1, c2, c3, c4, c5⟩, cz⟩ := trk6 HT9.out.2.2
                      obtain ⟨⟨f0, f1, f2⟩, ⟨z1, z2⟩, fz⟩ := HT9.out.2.1.row.at3 HLM.out HTL.out HMA.out
                      go_wp2_with fail
                      go_roundg (ln - (t + 1))
                      case measure => omega
                      case rel => exact ⟨t + 1, wb, by omega, rfl, by go_num, Lib.hid ⟨HT9.out.1.trans (did_keep HTI.out HTP.out HU.out).symm, by rw [mix_keep HTI.out (fun e => by rw [HTP.out] at e ⊢; exact HU.out e)]; exact HT9.out.2.1, HT9.out.2.2⟩⟩
                  · have q2 : (ix == pc - 1) = false := by simpa using hx
                    have HU : Hid ((pa, pb, pc).1 = id → backU ix ht (pa, pb, pc) = (pa, pb, pc)) := Lib.hid fun _ => by unfold backU; exact if_neg fun h => hx h.1
                    clear he hx
                    go_quiet (fail)
                    obtain ⟨w9, hw7⟩ : ∃ w', w' = w8.drewN nq := ⟨_, rfl⟩
                    have hb7 : Below w8.heap.size w8 w9 := by rw [hw7]; exact below_drewN _ _
                    rw [← hw7]
                    have HT9 := Lib.hid (And.intro HT8.out.1 (And.intro (HT8.out.2.1.next hb7) (old_below HT8.out.2.2 hb7)))
                    clear hw7 hb7 c0 c1 c2 c3 c4 c5 cz f0 f1 f2 z1 z2 fz
                    obtain ⟨⟨c0, c1, c2, c3, c4, c5⟩, cz⟩ := trk6 HT9.out.2.2
                    obtain ⟨⟨f0, f1, f2⟩, ⟨z1, z2⟩, fz⟩ := HT9.out.2.1.row.at3 HLM.out HTL.out HMA.out
                    go_wp2_with fail
                    go_roundg (ln - (t + 1))
                    case measure => omega
                    case rel => exact ⟨t + 1, wb, by omega, rfl, by go_num, Lib.hid ⟨HT9.out.1.trans (did_keep HTI.out HTP.out HU.out).symm, by rw [mix_keep HTI.out (fun e => by rw [HTP.out] at e ⊢; exact HU.out e)]; exact HT9.out.2.1, HT9.out.2.2⟩⟩
                · have q1 : (pa != id) = true := by simpa using he
                  have HU : Hid ((pa, pb, pc).1 = id → (backU ix ht) (pa, pb, pc) = (pa, pb, pc)) := Lib.hid fun e => absurd e he
                  clear he
                  go_wp2_with fail
                  go_quiet (fail)
                  obtain ⟨w7, hw7⟩ : ∃ w', w' = wr.drewN nq := ⟨_, rfl⟩
                  have hb7 : Below wr.heap.size wr w7 := by rw [hw7]; exact below_drewN _ _
                  rw [← hw7]
                  have HT7 := Lib.hid (And.intro HT.out.1 (And.intro (HT.out.2.1.next hb7) (old_below HT.out.2.2 hb7)))
                  clear hw7 hb7 c0 c1 c2 c3 c4 c5 cz f0 f1 f2 z1 z2 fz
                  obtain ⟨⟨c0, c1, c2, c3, c4, c5⟩, cz⟩ := trk6 HT7.out.2.2
                  obtain ⟨⟨f0, f1, f2⟩, ⟨z1, z2⟩, fz⟩ := HT7.out.2.1.row.at3 HLM.out HTL.out HMA.out
                  go_wp2_with fail
                  go_roundg (ln - (t + 1))
                  case measure => omega
                  case rel => exact ⟨t + 1, wb, by omega, rfl, by go_num, Lib.hid ⟨HT7.out.1.trans (did_keep HTI.out HTP.out HU.out).symm, by rw [mix_keep HTI.out (fun e => by rw [HTP.out] at e ⊢; exact HU.out e)]; exact HT7.out.2.1, HT7.out.2.2⟩⟩
              · obtain rfl : t = ln := by omega
                have htt : ¬ ((t : Nat) : Int) < (t : Int) := by omega
                have HTE : Hid ((wb = true ↔ ∃ x ∈ l', x.1 = id ∧ (backU ix ht) x ≠ x) ∧ ST w gt gm' n' (chgL (backU ix ht) id l') (.slice va t vc) f' wr) := Lib.hid ⟨by have := HT.out.1; rw [HLN.out, List.take_length] at this; exact this, by have := HT.out.2.1; rw [show t = l'.length from HLN.out, mix_end] at this; rw [show t = l'.length from HLN.out]; exact this⟩
                have HXT := Lib.hid HT.out.2.2
                have HCALL := Lib.hid (Back_any gt gm' n' f' id ix ht HKK.out.2.1 HKK.out.2.2.1 (fun p hp => (ok_f HSR.out.2 HSR.out.1 hp).1) wr HTE.out.2.trk (by omega))
                have HDID : Hid ((chg (backP ix ht) f' id).1 = wb) := Lib.hid (by
                  have h1 := chg_did HSR.out.1 (back_says ix ht id) (ok_pos HSR.out.2) (back_ch ix ht id)
                  have h2 := HTE.out.1
                  cases hb : (chg (backP ix ht) f' id).1 <;> cases hw : wb <;> simp only [hb, hw, Bool.false_eq_true, true_iff, false_iff] at h1 h2 ⊢
                  · exact absurd h2 h1
                  · exact absurd h1 h2)
                have qn : (wb != wb) = false := by simp
                clear HT
                go_wp2_with fail
                refine HCALL.out.mono ?_
                rintro e w9 ⟨rfl, ho9, ht9⟩
                rw [HDID.out]
                have HEND : Hid (ST w gt gm' (n' + 1) (chgL (backU ix ht) id l') (.slice va t vc) (chg (backP ix ht) f' id).2 w9 ∧ Rel (chgL (backU ix ht) id l') (chg (backP ix ht) f' id).2 ∧ OkL (chgL (backU ix ht) id l') ∧ w9.heap[gA]? = some (.cells #[.int .i64 kd, .int .i64 id, .int .i64 ix, .int .i64 ht, .int .i64 la, .slice sa sn sc] 50)) := Lib.hid ⟨HTE.out.2.told ho9 ht9, HSR.out.1.changed (back_says ix ht id) (ok_pos HSR.out.2), HSR.out.2.back id, (ho9.block gA (lt_of_heap HXT.out) HGA.out.2.2.1).trans HXT.out⟩
                clear ho9 ht9
                go_wp2_with fail
                go_meet
                case rel => exact ⟨n' + 1, gm', chgL (backU ix ht) id l', _, by rw [chgL_len, ← HLN.out]; exact hl30, by omega, HEND⟩
        have p7 : (kd == 2) = false := by simpa using y2
        clear y0 y1 y2
        go_wp2_with fail
        go_meet
        case rel => exact ⟨n', gm', l', f', by rw [← HLN.out]; exact hl30, by omega, Lib.hid ⟨HSA.out, HSR.out.1, HSR.out.2, HXA.out⟩⟩
      case rest =>
        as_aux_lemma =>
          obtain ⟨n2, gm2, l2, f2, hl2, hn2, HC⟩ := hcut
          obtain ⟨xa, xc, hlv⟩ := HC.out.1.row.slice
          obtain ⟨nl, hnl⟩ : ∃ nl, nl = l2.length := ⟨_, rfl⟩
          rw [← hnl] at hlv hl2
          subst hlv
          have HNL := Lib.hid hnl
          have HC1 : Hid (ST w gt gm2 n2 l2 (.slice xa nl xc) f2 wc) := Lib.hid HC.out.1
          have HRL2 : Hid (Rel l2 f2 ∧ OkL l2) := Lib.hid ⟨HC.out.2.1, HC.out.2.2.1⟩
          have HXC := Lib.hid HC.out.2.2.2
          have HIN : Hid (In1 id) := Lib.hid HKK.out.2.1
          clear HC hnl HSA HSR HXA HRI HGA cz c0 c1 c2 c3 c4 c5 p1 p2 p3 p4 g4 HBD HWA HGE HLN HSN HKK
          have HALL := Lib.hid (All_any gt gm2 n2 l2 f2 wc HC1.out.trk HRL2.out.1 (by omega) (by rw [← HNL.out]; omega) (ok_in HRL2.out.2))
          go_wp2_with fail
          refine HALL.out.mono ?_
          rintro e w4 ⟨av, rfl, hom⟩
          obtain ⟨ma, mc, hma⟩ := hom.2.slice
          have hLA : (allOf l2).length = nl := by unfold allOf; rw [List.length_map, HNL.out]
          rw [hLA] at hma
          subst hma
          have HST4 : Hid (ST w gt gm2 n2 l2 (.slice xa nl xc) f2 w4) := Lib.hid (HC1.out.next hom.1)
          have HM4 : Hid (RepM w4 (fun b => b < w4.heap.size) (allOf l2) (.slice ma nl mc)) := Lib.hid hom.rep
          have HX4 := Lib.hid (old_below HXC.out hom.1)
          clear hom hLA HALL HC1 HXC
          obtain ⟨⟨c0, c1, c2, c3, c4, c5⟩, cz⟩ := trk6 HX4.out
          go_upto_region 38 with fail
          go_cut [227] from 199 to 227 (fun s w' => s = .bool false ∧ Below w4.heap.size w4 w')
          case first =>
            have HHAS : Hid (∀ w' j, Below w4.heap.size w4 w' → f2 j ≠ none → Calls Try.prog 24 #[.slice xa nl xc, .int .i64 j] w' fun e w'' => e = .returned (.bool true) ∧ w'' = w') := Lib.hid fun w' j hb hj => by
              have h := has_any l2 j _ (.slice xa nl xc) w' (HST4.out.next hb).row.rep
              rw [decide_eq_true (there_of HRL2.out.1 hj)] at h
              exact h
            have qn : ((nl : Int) != (nl : Int)) = false := by simp
            obtain ⟨mv, hmv⟩ : ∃ mv, mv = matchOf f2 (-5) := ⟨_, rfl⟩
            obtain ⟨nv, hnv⟩ : ∃ nv, nv = nextOf f2 id := ⟨_, rfl⟩
            have HM : Hid (Calls Try.prog 23 #[.pointer (some ⟨gt, 0, none⟩), .int .i64 (-5)] w4 fun e w' => e = .returned (.int .i64 mv) ∧ w' = w4) := Lib.hid (by rw [hmv]; exact match_any gt gm2 n2 f2 (-5) (by omega) w4 HST4.out.trk)
            have HX : Hid (Calls Try.prog 25 #[.pointer (some ⟨gt, 0, none⟩), .int .i64 id] w4 fun e w' => e = .returned (.int .i64 nv) ∧ Below w4.heap.size w4 w') := Lib.hid (by rw [hnv]; exact next_any gt gm2 n2 f2 id HIN.out w4 HST4.out.trk (fun p hp => by have := ok_f HRL2.out.2 HRL2.out.1 hp; omega))
            have HM0 : Hid (mv ≠ 0 → f2 (-5) ≠ none) := Lib.hid fun h e => h (by rw [hmv]; unfold matchOf peerOf; rw [e]; rfl)
            have HN0 : Hid (nv ≠ 0 → f2 id ≠ none) := Lib.hid fun h e => h (by rw [hnv]; unfold nextOf; rw [e])
            clear hmv hnv
            by_cases hm0 : mv = 0
            · have q1 : (mv != 0) = false := by simp [hm0]
              clear hm0
              go_wp2_with fail
              refine HM.out.mono ?_
              rintro e w5 ⟨rfl, rfl⟩
              go_wp2_with fail
              refine HX.out.mono ?_
              rintro e w7 ⟨rfl, hb7⟩
              clear c0 c1 c2 c3 c4 c5 cz
              obtain ⟨⟨c0, c1, c2, c3, c4, c5⟩, cz⟩ := trk6 (old_below HX4.out hb7)
              by_cases hn0 : nv = 0
              · have q2 : (nv != 0) = false := by simp [hn0]
                clear hn0
                go_wp2_with fail
                go_meet
                case rel => exact ⟨rfl, hb7⟩
              · have q2 : (nv != 0) = true := by simpa using hn0
                have hh2 := HN0.out hn0
                clear hn0
                go_wp2_with fail
                refine (HHAS.out _ _ hb7 hh2).mono ?_
                rintro e w8 ⟨rfl, rfl⟩
                go_wp2_with fail
                go_meet
                case rel => exact ⟨rfl, hb7⟩
            · have q1 : (mv != 0) = true := by simpa using hm0
              have hh := HM0.out hm0
              clear hm0
              go_wp2_with fail
              refine HM.out.mono ?_
              rintro e w5 ⟨rfl, rfl⟩
              go_wp2_with fail
              refine (HHAS.out _ _ (Below.refl _ _) hh).mono ?_
              rintro e w6 ⟨rfl, rfl⟩
              go_wp2_with fail
              refine HX.out.mono ?_
              rintro e w7 ⟨rfl, hb7⟩
              clear c0 c1 c2 c3 c4 c5 cz
              obtain ⟨⟨c0, c1, c2, c3, c4, c5⟩, cz⟩ := trk6 (old_below HX4.out hb7)
              by_cases hn0 : nv = 0
              · have q2 : (nv != 0) = false := by simp [hn0]
                clear hn0
                go_wp2_with fail
                go_meet
                case rel => exact ⟨rfl, hb7⟩
              · have q2 : (nv != 0) = true := by simpa using hn0
                have hh2 := HN0.out hn0
                clear hn0
                go_wp2_with fail
                refine (HHAS.out _ _ hb7 hh2).mono ?_
                rintro e w8 ⟨rfl, rfl⟩
                go_wp2_with fail
                go_meet
                case rel => exact ⟨rfl, hb7⟩
          case rest =>
            obtain ⟨rfl, hb5⟩ := hcut
            obtain ⟨W5, hW5⟩ : ∃ W5, W5 = wc := ⟨_, rfl⟩
            subst hW5
            have HB5 := Lib.hid hb5
            clear hb5
            clear c0 c1 c2 c3 c4 c5 cz HX4 HIN
            go_wp2_with fail
            go_loopg [15] nl (fun gk i wr => ∃ t : Nat, t + gk = nl ∧ i = .int .i64 (t : Int) ∧ Hid (Below w4.heap.size w4 wr))
            case atStart => exact ⟨0, by omega, rfl, HB5⟩
            case round =>
              obtain ⟨t, ht1, rfl, HBT⟩ := hrel
              by_cases hlt2 : t < nl
              · as_aux_lemma =>
                  have htt : (t : Int) < (nl : Int) := by omega
                  have HTI : Hid (t < l2.length) := Lib.hid (by rw [← HNL.out]; exact hlt2)
                  have HTA : Hid (t < (allOf l2).length) := Lib.hid (by unfold allOf; rw [List.length_map]; exact HTI.out)
                  obtain ⟨⟨pa, pb, pc⟩, hpp⟩ : ∃ pp, pp = l2[t]'HTI.out := ⟨_, rfl⟩
                  have HAT : Hid ((allOf l2)[t]'HTA.out = (pa, pb)) := Lib.hid (by unfold allOf; rw [List.getElem_map, ← hpp])
                  have HMEM : Hid ((pa, pb, pc) ∈ l2) := Lib.hid (by rw [hpp]; exact List.getElem_mem _)
                  have HPF : Hid (f2 pa = some (pb, pc - 1)) := Lib.hid ((HRL2.out.1.mem pa pb pc).1 HMEM.out)
                  have hok := HRL2.out.2 _ HMEM.out
                  have HPP : Hid (l2[t]'HTI.out = (pa, pb, pc)) := Lib.hid hpp.symm
                  have HPA : Hid (In1 pa) := Lib.hid hok.1
                  have q4 : decide (pc ≤ pb) = false := decide_eq_false (by have := hok.2.2.1; simp only at this; omega)
                  have q5 : (pb != pb) = false := by simp
                  have q6 : (pc != pc) = false := by simp
                  clear hpp hok
                  obtain ⟨lb, hva⟩ := (HST4.out.next HBT.out).row.at0 HTI.out
                  subst hva
                  obtain ⟨mb, mo, hmb, hmw, -, -, -⟩ := (HM4.out.below (fun k hk => hk) HBT.out).elem t HTA.out
                  subst hmb
                  have HE : Hid (∀ w', Below wr.heap.size wr w' → w'.cell? ⟨lb, t * 3, none⟩ = some (.int .i64 pa) ∧ w'.cell? ⟨lb, t * 3 + 1, none⟩ = some (.int .i64 pb) ∧ w'.cell? ⟨lb, t * 3 + 2, none⟩ = some (.int .i64 pc) ∧ w'.cell? ⟨mb, mo + t * 2, none⟩ = some (.int .i64 pa) ∧ w'.cell? ⟨mb, mo + t * 2 + 1, none⟩ = some (.int .i64 pb)) := Lib.hid fun w' hb' => by
                    have hb := HBT.out.trans (hb'.mono HBT.out.size)
                    obtain ⟨⟨f0, f1, f2⟩, -, -⟩ := (HST4.out.next hb).row.at3 HNL.out HTI.out HPP.out
                    obtain ⟨b2, o2, e2, -, g0, g1, -⟩ := (HM4.out.below (fun k hk => hk) hb).elem t HTA.out
                    cases e2
                    rw [HAT.out] at g0 g1
                    exact ⟨f0, f1, f2, g0, g1⟩
                  have HMT : Hid (∀ w', Below wr.heap.size wr w' → Calls Try.prog 23 #[.pointer (some ⟨gt, 0, none⟩), .int .i64 pa] w' fun e w'' => e = .returned (.int .i64 pb) ∧ Below w'.heap.size w' w'') := Lib.hid fun w' hb' => by
                    have hb := HBT.out.trans (hb'.mono HBT.out.size)
                    refine (match_any gt gm2 n2 f2 pa HPA.out w' (HST4.out.next hb).trk).mono ?_
                    rintro e w'' ⟨rfl, rfl⟩
                    exact ⟨by unfold matchOf peerOf; rw [HPF.out]; rfl, Below.refl _ _⟩
                  have HNX : Hid (∀ w', Below wr.heap.size wr w' → Calls Try.prog 25 #[.pointer (some ⟨gt, 0, none⟩), .int .i64 pa] w' fun e w'' => e = .returned (.int .i64 pc) ∧ Below w'.heap.size w' w'') := Lib.hid fun w' hb' => by
                    have hb := HBT.out.trans (hb'.mono HBT.out.size)
                    refine (next_any gt gm2 n2 f2 pa HPA.out w' (HST4.out.next hb).trk (fun p hp => by have := ok_f HRL2.out.2 HRL2.out.1 hp; omega)).mono ?_
                    rintro e w'' ⟨rfl, hb⟩
                    exact ⟨by unfold nextOf; rw [HPF.out]; simp, hb⟩
                  have r0 : ∀ w' : World, Below wr.heap.size wr w' → w'.cell? ⟨lb, t * 3, none⟩ = some (.int .i64 pa) := fun w' hb' => (HE.out w' hb').1
                  have r1 : ∀ w' : World, Below wr.heap.size wr w' → w'.cell? ⟨lb, t * 3 + 1, none⟩ = some (.int .i64 pb) := fun w' hb' => (HE.out w' hb').2.1
                  have r2 : ∀ w' : World, Below wr.heap.size wr w' → w'.cell? ⟨lb, t * 3 + 2, none⟩ = some (.int .i64 pc) := fun w' hb' => (HE.out w' hb').2.2.1
                  have r3 : ∀ w' : World, Below wr.heap.size wr w' → w'.cell? ⟨mb, mo + t * 2, none⟩ = some (.int .i64 pa) := fun w' hb' => (HE.out w' hb').2.2.2.1
                  have r4 : ∀ w' : World, Below wr.heap.size wr w' → w'.cell? ⟨mb, mo + t * 2 + 1, none⟩ = some (.int .i64 pb) := fun w' hb' => (HE.out w' hb').2.2.2.2
                  have hS : Below wr.heap.size wr wr.drew := (Below.refl _ _).drew
                  go_wp2_with fail
                  refine wp_region_held (S := fun w' => Below wr.heap.size wr w') (by kernel_rfl) ?_
                  refine H_take (i := 0) (v := ?_) rfl (by as_aux_lemma => kernel_rfl) (by as_aux_lemma => kernel_rfl) (by as_aux_lemma => kernel_rfl) (fun _ _ _ h => h) (by rfl) hS ?_ ?_
                  rotate_left
                  · intro w' hw'; go_simp; with_reducible rfl
                  go_simp
                  refine H_take (i := 1) (v := ?_) rfl (by as_aux_lemma => kernel_rfl) (by as_aux_lemma => kernel_rfl) (by as_aux_lemma => kernel_rfl) (fun _ _ _ h => h) (by rfl) hS ?_ ?_
                  rotate_left
                  · intro w' hw'; go_simp; with_reducible rfl
                  go_simp
                  refine H_take (i := 2) (v := ?_) rfl (by as_aux_lemma => kernel_rfl) (by as_aux_lemma => kernel_rfl) (by as_aux_lemma => kernel_rfl) (fun _ _ _ h => h) (by rfl) hS ?_ ?_
                  rotate_left
                  · intro w' hw'; go_simp; with_reducible rfl
                  go_simp
                  refine H_take (i := 3) (v := ?_) rfl (by as_aux_lemma => kernel_rfl) (by as_aux_lemma => kernel_rfl) (by as_aux_lemma => kernel_rfl) (fun _ _ _ h => h) (by rfl) hS ?_ ?_
                  rotate_left
                  · intro w' hw'; go_simp; with_reducible rfl
                  go_simp
                  refine H_take (i := 4) (v := ?_) rfl (by as_aux_lemma => kernel_rfl) (by as_aux_lemma => kernel_rfl) (by as_aux_lemma => kernel_rfl) (fun _ _ _ h => h) (by rfl) hS ?_ ?_
                  rotate_left
                  · intro w' hw'; go_simp; with_reducible rfl
                  go_simp
                  refine H_take (i := 5) (v := ?_) rfl (by as_aux_lemma => kernel_rfl) (by as_aux_lemma => kernel_rfl) (by as_aux_lemma => kernel_rfl) (fun _ _ _ h => h) (by rfl) hS ?_ ?_
                  rotate_left
                  · intro w' hw'; go_simp; with_reducible rfl
                  go_simp
                  refine H_take (i := 6) (v := ?_) rfl (by as_aux_lemma => kernel_rfl) (by as_aux_lemma => kernel_rfl) (by as_aux_lemma => kernel_rfl) (fun _ _ _ h => h) (by rfl) hS ?_ ?_
                  rotate_left
                  · intro w' hw'; go_simp; with_reducible rfl
                  go_simp
                  refine H_take (i := 7) (v := ?_) rfl (by as_aux_lemma => kernel_rfl) (by as_aux_lemma => kernel_rfl) (by as_aux_lemma => kernel_rfl) (fun _ _ _ h => h) (by rfl) hS ?_ ?_
                  rotate_left
                  · intro w' hw'; go_simp; with_reducible rfl
                  go_simp
                  refine H_take (i := 8) (v := ?_) rfl (by as_aux_lemma => kernel_rfl) (by as_aux_lemma => kernel_rfl) (by as_aux_lemma => kernel_rfl) (fun _ _ _ h => h) (by rfl) hS ?_ ?_
                  rotate_left
                  · intro w' hw'; go_simp; with_reducible rfl
                  go_simp
                  refine H_take (i := 9) (v := ?_) rfl (by as_aux_lemma => kernel_rfl) (by as_aux_lemma => kernel_rfl) (by as_aux_lemma => kernel_rfl) (fun _ _ _ h => h) (by rfl) hS ?_ ?_
                  rotate_left
                  · intro w' hw'; go_simp; with_reducible rfl
                  go_simp
                  refine H_take (i := 10) (v := ?_) rfl (by as_aux_lemma => kernel_rfl) (by as_aux_lemma => kernel_rfl) (by as_aux_lemma => kernel_rfl) (fun _ _ _ h => h) (by rfl) hS ?_ ?_
                  rotate_left
                  · intro w' hw'; go_simp; with_reducible rfl
                  go_simp
                  refine H_take (i := 11) (v := ?_) rfl (by as_aux_lemma => kernel_rfl) (by as_aux_lemma => kernel_rfl) (by as_aux_lemma => kernel_rfl) (fun _ _ _ h => h) (by rfl) hS ?_ ?_
                  rotate_left
                  · intro w' hw'; go_simp; with_reducible rfl
                  go_simp
                  refine H_take (i := 12) (v := ?_) rfl (by as_aux_lemma => kernel_rfl) (by as_aux_lemma => kernel_rfl) (by as_aux_lemma => kernel_rfl) (fun _ _ _ h => h) (by rfl) hS ?_ ?_
                  rotate_left
                  · intro w' hw'; go_simp; with_reducible rfl
                  go_simp
                  refine H_take (i := 13) (v := ?_) rfl (by as_aux_lemma => kernel_rfl) (by as_aux_lemma => kernel_rfl) (by as_aux_lemma => kernel_rfl) (fun _ _ _ h => h) (by rfl) hS ?_ ?_
                  rotate_left
                  · intro w' hw'; go_simp; with_reducible rfl
                  go_simp
                  refine H_take (i := 14) (v := ?_) rfl (by as_aux_lemma => kernel_rfl) (by as_aux_lemma => kernel_rfl) (by as_aux_lemma => kernel_rfl) (fun _ _ _ h => h) (by rfl) hS ?_ ?_
                  rotate_left
                  · intro w' hw'; go_simp; with_reducible rfl
                  go_simp
                  refine H_take (i := 15) (v := ?_) rfl (by as_aux_lemma => kernel_rfl) (by as_aux_lemma => kernel_rfl) (by as_aux_lemma => kernel_rfl) (fun _ _ _ h => h) (by rfl) hS ?_ ?_
                  rotate_left
                  · intro w' hw'; go_simp; with_reducible rfl
                  go_simp
                  refine H_take (i := 16) (v := ?_) rfl (by as_aux_lemma => kernel_rfl) (by as_aux_lemma => kernel_rfl) (by as_aux_lemma => kernel_rfl) (fun _ _ _ h => h) (by rfl) hS ?_ ?_
                  rotate_left
                  · intro w' hw'; go_simp; with_reducible rfl
                  go_simp
                  refine H_take (i := 17) (v := ?_) rfl (by as_aux_lemma => kernel_rfl) (by as_aux_lemma => kernel_rfl) (by as_aux_lemma => kernel_rfl) (fun _ _ _ h => h) (by rfl) hS ?_ ?_
                  rotate_left
                  · intro w' hw'; go_simp; with_reducible rfl
                  go_simp
                  refine H_take (i := 18) (v := ?_) rfl (by as_aux_lemma => kernel_rfl) (by as_aux_lemma => kernel_rfl) (by as_aux_lemma => kernel_rfl) (fun _ _ _ h => h) (by rfl) hS ?_ ?_
                  rotate_left
                  · intro w' hw'; go_simp; with_reducible rfl
                  go_simp
                  refine H_take (i := 19) (v := ?_) rfl (by as_aux_lemma => kernel_rfl) (by as_aux_lemma => kernel_rfl) (by as_aux_lemma => kernel_rfl) (fun _ _ _ h => h) (by rfl) hS ?_ ?_
                  rotate_left
                  · intro w' hw'; go_simp; with_reducible rfl
                  go_simp
                  refine H_take (i := 20) (v := ?_) rfl (by as_aux_lemma => kernel_rfl) (by as_aux_lemma => kernel_rfl) (by as_aux_lemma => kernel_rfl) (fun _ _ _ h => h) (by rfl) hS ?_ ?_
                  rotate_left
                  · intro w' hw'; go_simp; with_reducible rfl
                  go_simp
                  refine H_take (i := 21) (v := ?_) rfl (by as_aux_lemma => kernel_rfl) (by as_aux_lemma => kernel_rfl) (by as_aux_lemma => kernel_rfl) (fun _ _ _ h => h) (by rfl) hS ?_ ?_
                  rotate_left
                  · intro w' hw'; go_simp; with_reducible rfl
                  go_simp
                  refine H_take (i := 22) (v := ?_) rfl (by as_aux_lemma => kernel_rfl) (by as_aux_lemma => kernel_rfl) (by as_aux_lemma => kernel_rfl) (fun _ _ _ h => h) (by rfl) hS ?_ ?_
                  rotate_left
                  · intro w' hw'; go_simp; with_reducible rfl
                  go_simp
                  refine H_take (i := 24) (v := ?_) rfl (by as_aux_lemma => kernel_rfl) (by as_aux_lemma => kernel_rfl) (by as_aux_lemma => kernel_rfl) (fun _ _ _ h => h) (by rfl) hS ?_ ?_
                  rotate_left
                  · intro w' hw'; go_simp; with_reducible rfl
                  go_simp
                  refine H_take (i := 25) (v := ?_) rfl (by as_aux_lemma => kernel_rfl) (by as_aux_lemma => kernel_rfl) (by as_aux_lemma => kernel_rfl) (fun _ _ _ h => h) (by rfl) hS ?_ ?_
                  rotate_left
                  · intro w' hw'; go_simp; with_reducible rfl
                  go_simp
                  refine H_take (i := 26) (v := ?_) rfl (by as_aux_lemma => kernel_rfl) (by as_aux_lemma => kernel_rfl) (by as_aux_lemma => kernel_rfl) (fun _ _ _ h => h) (by rfl) hS ?_ ?_
                  rotate_left
                  · intro w' hw'; go_simp; with_reducible rfl
                  go_simp
                  refine H_take (i := 27) (v := ?_) rfl (by as_aux_lemma => kernel_rfl) (by as_aux_lemma => kernel_rfl) (by as_aux_lemma => kernel_rfl) (fun _ _ _ h => h) (by rfl) hS ?_ ?_
                  rotate_left
                  · intro w' hw'; go_simp; with_reducible rfl
                  go_simp
                  refine H_take (i := 28) (v := ?_) rfl (by as_aux_lemma => kernel_rfl) (by as_aux_lemma => kernel_rfl) (by as_aux_lemma => kernel_rfl) (fun _ _ _ h => h) (by rfl) hS ?_ ?_
                  rotate_left
                  · intro w' hw'; go_simp; with_reducible rfl
                  go_simp
                  refine H_one (i := 23) (by as_aux_lemma => kernel_rfl) rfl (by rfl) ?_
                  go_simp
                  refine (HMT.out _ hS).mono ?_
                  rintro e w8 ⟨rfl, hb8⟩
                  have hS8 : Below wr.heap.size wr w8 := hS.trans (hb8.mono hS.size)
                  refine ⟨hS8, ?_⟩
                  go_simp
                  clear hb8 hS
                  refine H_take (i := 29) (v := ?_) rfl (by as_aux_lemma => kernel_rfl) (by as_aux_lemma => kernel_rfl) (by as_aux_lemma => kernel_rfl) (fun _ _ _ h => h) (by rfl) hS8 ?_ ?_
                  rotate_left
                  · intro w' hw'; go_simp; with_reducible rfl
                  go_simp
                  refine H_take (i := 30) (v := ?_) rfl (by as_aux_lemma => kernel_rfl) (by as_aux_lemma => kernel_rfl) (by as_aux_lemma => kernel_rfl) (fun _ _ _ h => h) (by rfl) hS8 ?_ ?_
                  rotate_left
                  · intro w' hw'; go_simp; with_reducible rfl
                  go_simp
                  refine H_take (i := 31) (v := ?_) rfl (by as_aux_lemma => kernel_rfl) (by as_aux_lemma => kernel_rfl) (by as_aux_lemma => kernel_rfl) (fun _ _ _ h => h) (by rfl) hS8 ?_ ?_
                  rotate_left
                  · intro w' hw'; go_simp; with_reducible rfl
                  go_simp
                  refine H_take (i := 32) (v := ?_) rfl (by as_aux_lemma => kernel_rfl) (by as_aux_lemma => kernel_rfl) (by as_aux_lemma => kernel_rfl) (fun _ _ _ h => h) (by rfl) hS8 ?_ ?_
                  rotate_left
                  · intro w' hw'; go_simp; with_reducible rfl
                  go_simp
                  refine H_take (i := 33) (v := ?_) rfl (by as_aux_lemma => kernel_rfl) (by as_aux_lemma => kernel_rfl) (by as_aux_lemma => kernel_rfl) (fun _ _ _ h => h) (by rfl) hS8 ?_ ?_
                  rotate_left
                  · intro w' hw'; go_simp; with_reducible rfl
                  go_simp
                  refine H_take (i := 34) (v := ?_) rfl (by as_aux_lemma => kernel_rfl) (by as_aux_lemma => kernel_rfl) (by as_aux_lemma => kernel_rfl) (fun _ _ _ h => h) (by rfl) hS8 ?_ ?_
                  rotate_left
                  · intro w' hw'; go_simp; with_reducible rfl
                  go_simp
                  refine H_take (i := 35) (v := ?_) rfl (by as_aux_lemma => kernel_rfl) (by as_aux_lemma => kernel_rfl) (by as_aux_lemma => kernel_rfl) (fun _ _ _ h => h) (by rfl) hS8 ?_ ?_
                  rotate_left
                  · intro w' hw'; go_simp; with_reducible rfl
                  go_simp
                  refine H_take (i := 36) (v := ?_) rfl (by as_aux_lemma => kernel_rfl) (by as_aux_lemma => kernel_rfl) (by as_aux_lemma => kernel_rfl) (fun _ _ _ h => h) (by rfl) hS8 ?_ ?_
                  rotate_left
                  · intro w' hw'; go_simp; with_reducible rfl
                  go_simp
                  refine H_take (i := 37) (v := ?_) rfl (by as_aux_lemma => kernel_rfl) (by as_aux_lemma => kernel_rfl) (by as_aux_lemma => kernel_rfl) (fun _ _ _ h => h) (by rfl) hS8 ?_ ?_
                  rotate_left
                  · intro w' hw'; go_simp; with_reducible rfl
                  go_simp
                  refine H_take (i := 39) (v := ?_) rfl (by as_aux_lemma => kernel_rfl) (by as_aux_lemma => kernel_rfl) (by as_aux_lemma => kernel_rfl) (fun _ _ _ h => h) (by rfl) hS8 ?_ ?_
                  rotate_left
                  · intro w' hw'; go_simp; with_reducible rfl
                  go_simp
                  refine H_take (i := 40) (v := ?_) rfl (by as_aux_lemma => kernel_rfl) (by as_aux_lemma => kernel_rfl) (by as_aux_lemma => kernel_rfl) (fun _ _ _ h => h) (by rfl) hS8 ?_ ?_
                  rotate_left
                  · intro w' hw'; go_simp; with_reducible rfl
                  go_simp
                  refine H_take (i := 41) (v := ?_) rfl (by as_aux_lemma => kernel_rfl) (by as_aux_lemma => kernel_rfl) (by as_aux_lemma => kernel_rfl) (fun _ _ _ h => h) (by rfl) hS8 ?_ ?_
                  rotate_left
                  · intro w' hw'; go_simp; with_reducible rfl
                  go_simp
                  refine H_take (i := 42) (v := ?_) rfl (by as_aux_lemma => kernel_rfl) (by as_aux_lemma => kernel_rfl) (by as_aux_lemma => kernel_rfl) (fun _ _ _ h => h) (by rfl) hS8 ?_ ?_
                  rotate_left
                  · intro w' hw'; go_simp; with_reducible rfl
                  go_simp
                  refine H_take (i := 43) (v := ?_) rfl (by as_aux_lemma => kernel_rfl) (by as_aux_lemma => kernel_rfl) (by as_aux_lemma => kernel_rfl) (fun _ _ _ h => h) (by rfl) hS8 ?_ ?_
                  rotate_left
                  · intro w' hw'; go_simp; with_reducible rfl
                  go_simp
                  refine H_one (i := 38) (by as_aux_lemma => kernel_rfl) rfl (by rfl) ?_
                  go_simp
                  refine (HNX.out _ hS8).mono ?_
                  rintro e w9 ⟨rfl, hb9⟩
                  have hS9 : Below wr.heap.size wr w9 := hS8.trans (hb9.mono hS8.size)
                  refine ⟨hS9, ?_⟩
                  go_simp
                  clear hb9 hS8
                  refine H_take (i := 44) (v := ?_) rfl (by as_aux_lemma => kernel_rfl) (by as_aux_lemma => kernel_rfl) (by as_aux_lemma => kernel_rfl) (fun _ _ _ h => h) (by rfl) hS9 ?_ ?_
                  rotate_left
                  · intro w' hw'; go_simp; with_reducible rfl
                  go_simp
                  refine H_take (i := 45) (v := ?_) rfl (by as_aux_lemma => kernel_rfl) (by as_aux_lemma => kernel_rfl) (by as_aux_lemma => kernel_rfl) (fun _ _ _ h => h) (by rfl) hS9 ?_ ?_
                  rotate_left
                  · intro w' hw'; go_simp; with_reducible rfl
                  go_simp
                  refine H_take (i := 46) (v := ?_) rfl (by as_aux_lemma => kernel_rfl) (by as_aux_lemma => kernel_rfl) (by as_aux_lemma => kernel_rfl) (fun _ _ _ h => h) (by rfl) hS9 ?_ ?_
                  rotate_left
                  · intro w' hw'; go_simp; with_reducible rfl
                  go_simp
                  refine H_take (i := 47) (v := ?_) rfl (by as_aux_lemma => kernel_rfl) (by as_aux_lemma => kernel_rfl) (by as_aux_lemma => kernel_rfl) (fun _ _ _ h => h) (by rfl) hS9 ?_ ?_
                  rotate_left
                  · intro w' hw'; go_simp; with_reducible rfl
                  go_simp
                  refine H_take (i := 48) (v := ?_) rfl (by as_aux_lemma => kernel_rfl) (by as_aux_lemma => kernel_rfl) (by as_aux_lemma => kernel_rfl) (fun _ _ _ h => h) (by rfl) hS9 ?_ ?_
                  rotate_left
                  · intro w' hw'; go_simp; with_reducible rfl
                  go_simp
                  refine H_take (i := 49) (v := ?_) rfl (by as_aux_lemma => kernel_rfl) (by as_aux_lemma => kernel_rfl) (by as_aux_lemma => kernel_rfl) (fun _ _ _ h => h) (by rfl) hS9 ?_ ?_
                  rotate_left
                  · intro w' hw'; go_simp; with_reducible rfl
                  go_simp
                  refine H_take (i := 50) (v := ?_) rfl (by as_aux_lemma => kernel_rfl) (by as_aux_lemma => kernel_rfl) (by as_aux_lemma => kernel_rfl) (fun _ _ _ h => h) (by rfl) hS9 ?_ ?_
                  rotate_left
                  · intro w' hw'; go_simp; with_reducible rfl
                  go_simp
                  refine H_take (i := 51) (v := ?_) rfl (by as_aux_lemma => kernel_rfl) (by as_aux_lemma => kernel_rfl) (by as_aux_lemma => kernel_rfl) (fun _ _ _ h => h) (by rfl) hS9 ?_ ?_
                  rotate_left
                  · intro w' hw'; go_simp; with_reducible rfl
                  go_simp
                  refine H_take (i := 52) (v := ?_) rfl (by as_aux_lemma => kernel_rfl) (by as_aux_lemma => kernel_rfl) (by as_aux_lemma => kernel_rfl) (fun _ _ _ h => h) (by rfl) hS9 ?_ ?_
                  rotate_left
                  · intro w' hw'; go_simp; with_reducible rfl
                  go_simp
                  refine H_take (i := 53) (v := ?_) rfl (by as_aux_lemma => kernel_rfl) (by as_aux_lemma => kernel_rfl) (by as_aux_lemma => kernel_rfl) (fun _ _ _ h => h) (by rfl) hS9 ?_ ?_
                  rotate_left
                  · intro w' hw'; go_simp; with_reducible rfl
                  go_simp
                  refine H_take (i := 54) (v := ?_) rfl (by as_aux_lemma => kernel_rfl) (by as_aux_lemma => kernel_rfl) (by as_aux_lemma => kernel_rfl) (fun _ _ _ h => h) (by rfl) hS9 ?_ ?_
                  rotate_left
                  · intro w' hw'; go_simp; with_reducible rfl
                  go_simp
                  refine H_take (i := 55) (v := ?_) rfl (by as_aux_lemma => kernel_rfl) (by as_aux_lemma => kernel_rfl) (by as_aux_lemma => kernel_rfl) (fun _ _ _ h => h) (by rfl) hS9 ?_ ?_
                  rotate_left
                  · intro w' hw'; go_simp; with_reducible rfl
                  go_simp
                  refine H_take (i := 56) (v := ?_) rfl (by as_aux_lemma => kernel_rfl) (by as_aux_lemma => kernel_rfl) (by as_aux_lemma => kernel_rfl) (fun _ _ _ h => h) (by rfl) hS9 ?_ ?_
                  rotate_left
                  · intro w' hw'; go_simp; with_reducible rfl
                  go_simp
                  refine H_take (i := 57) (v := ?_) rfl (by as_aux_lemma => kernel_rfl) (by as_aux_lemma => kernel_rfl) (by as_aux_lemma => kernel_rfl) (fun _ _ _ h => h) (by rfl) hS9 ?_ ?_
                  rotate_left
                  · intro w' hw'; go_simp; with_reducible rfl
                  go_simp
                  refine H_take (i := 58) (v := ?_) rfl (by as_aux_lemma => kernel_rfl) (by as_aux_lemma => kernel_rfl) (by as_aux_lemma => kernel_rfl) (fun _ _ _ h => h) (by rfl) hS9 ?_ ?_
                  rotate_left
                  · intro w' hw'; go_simp; with_reducible rfl
                  go_simp
                  refine wpAnyH_done (by as_aux_lemma => kernel_rfl) ?_ _
                  have HB9 : Hid (Below w4.heap.size w4 w9) := Lib.hid (HBT.out.trans (hS9.mono HBT.out.size))
                  clear hS9 r0 r1 r2 r3 r4 HE HMT HNX
                  go_wp2_with fail
                  go_roundg (nl - (t + 1))
                  case measure => omega
                  case rel => exact ⟨t + 1, by omega, by go_num, HB9⟩
              · obtain rfl : t = nl := by omega
                have htt : ¬ ((t : Nat) : Int) < (t : Int) := by omega
                go_wp2_with fail
                go_roundg (q - (z + 1))
                case measure => omega
                case rel => exact ⟨z + 1, n2, gm2, l2, f2, by omega, by go_num, by rw [← HNL.out]; exact hl2, by omega, Lib.hid ⟨HST4.out.next HBT.out, HRL2.out⟩⟩
    · obtain rfl : z = q := by omega
      have hzz : ¬ ((z : Nat) : Int) < (z : Int) := by omega
      have HBE : Hid (Below w.heap.size w wr) := Lib.hid HS.out.1.low
      clear HS
      go_wp2_with fail
      go_ret
      exact ⟨rfl, HBE.out⟩
end Go.Proofs.Ytenpbcpdecnhmaa.M
