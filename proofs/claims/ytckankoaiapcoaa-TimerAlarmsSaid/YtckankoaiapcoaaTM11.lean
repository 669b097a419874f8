/- Package timer: Due: alarms ring one after the other, and go. Package timer: Due: what the library collects. Package timer: Due. -/
import Derived.Test.YtckankoaiapcoaaTM9
import Derived.Test.YtckankoaiapcoaaTM10
import Derived.Sort.QuietIn
import Derived.RangeFuncCalls
import Derived.LoopIn
import Derived.OwnWalkIn
/- Part: TmK. -/
namespace Go.Proofs.Ytckankoaiapcoaa.M
open Go.RowKit Go.Maps
open Tm (Al at' alt swL Pl HpF UpI DnI Sm srt setS clrS Uq)

attribute [local go_sem] Oper.semAt_some

theorem Gone.postX {w w' : World} {X : Nat → Prop} {ga gr gm c n : Nat} {x : Al} {L l : List Al} (h : Gone ga gr gm c n x L w w') (hs : srt l) (hsm : Sm L l) (hn : L.length = n + 1) (hX : X ga ∧ X gr ∧ X gm) : Only X w w' ∧ AlS w' X ga (clrS l x.2) := by
  obtain ⟨L1, h1, ⟨p, hp⟩, h2, h3, h4, h5⟩ := h
  have hl : L1.length = n + 1 := h1.1.trans hn
  have hlt : (L1.take n).length = n := by rw [List.length_take]; omega
  refine ⟨h5.mono fun k hk => ?_, L1.take n, ?_, ?_, ?_, Tm.clr_srt hs _⟩
  · rcases hk with rfl | rfl | rfl
    · exact hX.1
    · exact hX.2.1
    · exact hX.2.2
  · rcases h4 with ⟨e, hb⟩ | ⟨hne, hi⟩
    · exact .inl ⟨e, hb, hX.1⟩
    · exact .inr ⟨gr, gm, c, hne, hi, hX.1, hX.2.1, hX.2.2⟩
  · have := Tm.sm_drop hs (h1.trans hsm) hp hl
    rwa [h2] at this
  · rw [hlt]; exact hp_take h3

/-- How many come due. -/
def dueN (l : List Al) (now : Int) : Nat := (l.takeWhile fun x => decide (x.1 ≤ now)).length

theorem dueN_le (l : List Al) (now : Int) : dueN l now ≤ l.length := (List.takeWhile_prefix _).length_le

theorem due_at (now : Int) : ∀ (l : List Al) (k : Nat), k ≤ dueN l now → (l.drop k = [] → k = dueN l now) ∧ ∀ h r, l.drop k = h :: r → (h.1 ≤ now ↔ k < dueN l now)
  | [], k, hk => ⟨fun _ => by simp [dueN] at hk ⊢; exact hk, fun h r e => by simp at e⟩
  | x :: t, 0, _ => by
    refine ⟨fun e => by simp at e, fun h r e => ?_⟩
    obtain ⟨rfl, rfl⟩ := List.cons.inj e
    unfold dueN
    by_cases hx : x.1 ≤ now
    · rw [List.takeWhile_cons_of_pos (by simpa using hx)]; simp [hx]
    · rw [List.takeWhile_cons_of_neg (by simpa using hx)]; simp [hx]
  | x :: t, k + 1, hk => by
    by_cases hx : x.1 ≤ now
    · have e : dueN (x :: t) now = dueN t now + 1 := by unfold dueN; rw [List.takeWhile_cons_of_pos (by simpa using hx)]; rfl
      rw [e] at hk ⊢
      have := due_at now t k (by omega)
      refine ⟨fun h => by rw [this.1 h], fun h r e2 => ?_⟩
      rw [this.2 h r e2]; omega
    · have e : dueN (x :: t) now = 0 := by unfold dueN; rw [List.takeWhile_cons_of_neg (by simpa using hx)]; rfl
      rw [e] at hk
      omega

/-- The least one rings. -/
theorem ring_pop (ga : Nat) (X : Nat → Prop) (h : Al) (r : List Al) (w : World) (ha : AlS w X ga (h :: r)) :
    (∃ gr gm c n : Nat, w.heap[ga]? = some (.cells #[.slice (some ⟨gr, 0, none⟩) (n + 1) c, .map (some gm)] 42) ∧ w.cell? ⟨gr, 1, none⟩ = some (.int .i64 h.2)) ∧
    Calls Try.prog 59 #[hV ga] w fun e w' => (∃ v, e = .returned v) ∧ Only X w w' ∧ AlS w' X ga r := by
  obtain ⟨L, h1, h2, h3, h4⟩ := ha
  have hroot := Tm.root_eq h4 h2 h3 rfl
  have hlen : L.length = r.length + 1 := h2.1
  rcases h1 with ⟨rfl, _⟩ | ⟨gr, gm, c, hne, hi, hX⟩
  · simp at hlen
  · have hb := hi.box
    rw [hlen] at hb
    have hc := (hi.elem 0 (by omega)).2.1
    rw [hroot] at hc
    refine ⟨⟨gr, gm, c, r.length, hb, by simpa using hc⟩, (hpop_any ga gr gm c r.length L hlen w hi h3).mono ?_⟩
    rintro e w' ⟨rfl, hg⟩
    have := hg.postX h4 h2 hlen hX
    rw [hroot] at this
    obtain ⟨p, _, hpl⟩ := hi.map
    rw [Tm.clr_head h4 (h2.uq hpl)] at this
    exact ⟨⟨_, rfl⟩, this⟩

/-- How many rows a box tells of. -/
def rowsN (w : World) (ga : Nat) : Nat :=
  match w.heap[ga]? with
  | some (Obj.cells cs _ _) => match cs[0]? with
    | some (Value.slice _ n _) => n
    | _ => 0
  | _ => 0

theorem rowsN_of {w : World} {X : Nat → Prop} {ga : Nat} {l : List Al} (h : AlS w X ga l) : rowsN w ga = l.length := by
  obtain ⟨L, h1, h2, _⟩ := h
  obtain ⟨a, c, mv, hb, _⟩ := h1.box
  unfold rowsN
  rw [hb, ← h2.1]
  rfl

set_option maxRecDepth 100000 in
set_option maxHeartbeats 2000000 in
theorem ring_in (l ga gp gq : Nat) (now : Int) (X : Nat → Prop) (l0 : List Al) (N : Nat) (hN : N = dueN l0 now) (J : Nat → (Nat → Option Obj) → World → Prop) (W : World)
    (hJ : ∀ k S W, J k S W → (W.cell? ⟨gp, 0, none⟩ = some (.pointer (some ⟨ga, 0, none⟩)) ∧ W.cell? ⟨gq, 0, none⟩ = some (.int .i64 now)) ∧ ∀ q, X q → W.heap[q]? = S q)
    (hT : ∀ k S W W', J k S W → Only X W W' → J k (fun q => W'.heap[q]?) W')
    (hY : ∀ k S W1, k < N → J k S W1 → YieldAt Fence.wide (2 - 1) Try.prog l #[.int .i64 (l0.getD k (0, 0)).2] W1 fun e W' => e = .returned (.bool true) ∧ J (k + 1) S W') (h0 : ∃ S, J 0 S W) (he : AlS W X ga l0) :
    CallsIn Fence.wide 2 Try.prog 58 #[.func (.yield l) #[] #[], .pointer (some ⟨gp, 0, none⟩), .pointer (some ⟨gq, 0, none⟩)] W fun e W' => (∃ v, e = .returned v) ∧ (∃ S, J N S W') ∧ AlS W' X ga (l0.drop N) := by
  have HJ := Lib.hid hJ
  have HT := Lib.hid hT
  have HY := Lib.hid hY
  have HN := Lib.hid hN
  obtain ⟨S0, hs0⟩ := h0
  obtain ⟨⟨c0, c1⟩, -⟩ := hJ 0 S0 W hs0
  have HNX := Lib.hid (Next_any ga X l0 W he)
  have HS0 := Lib.hid hs0
  have HE := Lib.hid he
  obtain ⟨tv, okv, hnv⟩ : ∃ tv okv, nextV l0 = .tuple #[.int .i64 tv, .bool okv] := by
    cases l0 with
    | nil => exact ⟨_, _, rfl⟩
    | cons h r => exact ⟨_, _, rfl⟩
  rw [hnv] at HNX
  have HNV := Lib.hid hnv
  clear hJ hT hY hN hs0 he hnv
  refine callsIn_of_wp Try.func58 rfl trivial ?_ rfl
  simp only [Try.ntmps58, List.size_toArray, List.length_cons, List.length_nil, Nat.reduceAdd, Nat.reduceSub, Array.replicate_succ, Array.replicate_zero, List.push_toArray, List.append_toArray, List.nil_append, List.cons_append]
  gi_wp2
  refine ⟨trivial, (callsIn_wide.2 HNX.out).mono ?_⟩
  rintro e w1 ⟨rfl, rfl⟩
  clear c0 c1
  gi_wp2
  gi_loopw [4, 5, 6, 18] (fun t4 t5 _ _ wr => ∃ (k : Nat) (S : Nat → Option Obj) (tv : Int) (okv : Bool), k ≤ N ∧ t4 = .int .i64 tv ∧ t5 = .bool okv ∧ Hid (nextV (l0.drop k) = .tuple #[.int .i64 tv, .bool okv]) ∧ Hid (J k S wr ∧ AlS wr X ga (l0.drop k))) (fun _ _ _ _ wr => rowsN wr ga)
  case atStart => exact ⟨0, S0, tv, okv, Nat.zero_le _, rfl, rfl, HNV, Lib.hid ⟨HS0.out, HE.out⟩⟩
  case round =>
    obtain ⟨k, S, tv, okv, hk, rfl, rfl, HNV, HA⟩ := hrel
    obtain ⟨⟨c0, c1⟩, -⟩ := HJ.out k S wr HA.out.1
    have HDA := Lib.hid (due_at now l0 k (by rw [← HN.out]; exact hk))
    cases hd : l0.drop k with
    | nil =>
      have hkN : k = N := by rw [HN.out]; exact HDA.out.1 hd
      have hnv := HNV.out
      rw [hd] at hnv
      unfold nextV at hnv
      simp at hnv
      obtain ⟨rfl, rfl⟩ := hnv
      subst hkN
      gi_wp2
      go_end0
      exact ⟨⟨_, rfl⟩, ⟨S, HA.out.1⟩, HA.out.2⟩
    | cons h r =>
      have hnv := HNV.out
      rw [hd] at hnv
      unfold nextV at hnv
      simp at hnv
      obtain ⟨h1, rfl⟩ := hnv
      have hdue := HDA.out.2 h r hd
      rw [h1] at hdue
      by_cases hle : tv ≤ now
      · have hkN : k < N := by rw [HN.out]; exact hdue.1 hle
        have hls : AlS wr X ga (h :: r) := by have := HA.out.2; rw [hd] at this; exact this
        have hmeas := rowsN_of hls
        obtain ⟨⟨gr, gm, c, n, hb, hkc⟩, hpop⟩ := ring_pop ga X h r wr hls
        obtain ⟨b0, b1, bz0, bz1, bz⟩ := block2' hb
        have hdr : l0.drop (k + 1) = r := by rw [← List.drop_drop, hd]; rfl
        have hget : (l0.getD k (0, 0)).2 = h.2 := by
          have := congrArg List.head? hd
          rw [List.head?_drop] at this
          rw [List.getD_eq_getElem?_getD, this]; rfl
        obtain ⟨key, hkey⟩ : ∃ key, key = h.2 := ⟨_, rfl⟩
        rw [← hkey] at hkc hget
        have HP := Lib.hid hpop
        unfold hV at HP
        have HD := Lib.hid (And.intro hdr (And.intro hget hmeas))
        have hn1 : (0 : Int) < (n : Int) + 1 := by omega
        clear hdue hls hmeas hpop hb hdr hget hkey hd h1
        gi_wp2
        refine ⟨trivial, (callsIn_wide.2 HP.out).mono ?_⟩
        rintro e w3 ⟨⟨v, rfl⟩, ho3, ha3⟩
        have hJ3 := HT.out k S wr w3 HA.out.1 ho3
        obtain ⟨fn, tmps, assign, body, hy, hR⟩ := HY.out k _ w3 hkN hJ3
        rw [HD.out.2.1] at hy
        have HO3 := Lib.hid ho3
        have HA3 := Lib.hid ha3
        clear ho3 ha3 hJ3 b0 b1 bz0 bz1 bz hkc c0 c1
        gi_wp2
        refine hR.mono ?_
        rintro _ W4 ⟨rfl, hJ4⟩
        obtain ⟨⟨c0, c1⟩, hsn⟩ := HJ.out _ _ W4 hJ4
        have ha4 : AlS W4 X ga r := HA3.out.same (fun _ h => h) fun q hq _ => hsn q hq
        have HNX := Next_any ga X r W4 ha4
        obtain ⟨tv2, okv2, hnv⟩ : ∃ tv okv, nextV r = .tuple #[.int .i64 tv, .bool okv] := by
          cases r with
          | nil => exact ⟨_, _, rfl⟩
          | cons h r => exact ⟨_, _, rfl⟩
        rw [hnv] at HNX
        have HNX := Lib.hid HNX
        have HNV2 := Lib.hid hnv
        have HJ4 := Lib.hid hJ4
        have HA4 := Lib.hid ha4
        clear hJ4 hsn ha4 hnv hy hR
        gi_wp2
        refine ⟨trivial, (callsIn_wide.2 HNX.out).mono ?_⟩
        rintro e w5 ⟨rfl, rfl⟩
        clear c0 c1
        gi_wp2
        go_roundw
        case rel => exact ⟨k + 1, _, tv2, okv2, hkN, rfl, rfl, by rw [HD.out.1]; exact HNV2, Lib.hid ⟨HJ4.out, by rw [HD.out.1]; exact HA4.out⟩⟩
        case measure =>
          rw [HD.out.2.2, rowsN_of HA4.out]
          simp
      · have hkN : k = N := by
          have : ¬ k < N := by rw [HN.out]; exact fun h => hle (hdue.2 h)
          omega
        have HF : Hid (∃ S, J N S wr) := Lib.hid ⟨S, by rw [← hkN]; exact HA.out.1⟩
        have HF2 : Hid (AlS wr X ga (l0.drop N)) := Lib.hid (by rw [← hkN]; exact HA.out.2)
        clear hdue h1 hd HA
        gi_wp2
        go_end0
        exact ⟨⟨_, rfl⟩, HF.out, HF2.out⟩
end Go.Proofs.Ytckankoaiapcoaa.M

/- Part: TmL. -/
namespace Go.Proofs.Ytckankoaiapcoaa.M
open Go.RowKit Go.Maps Go.Shelf
open Tm (Al at' alt swL Pl HpF UpI DnI Sm srt setS clrS Uq)

attribute [local go_sem] Oper.semAt_some

theorem wpListIn_append_run {Fn : Fence} {nn : Nat} {P : Program} (w : World) {ops : Array Oper} {rest : List Oper} {o : Oper} {a : Act} {Q : Exit → Act → World → Prop} (hgd : o.guard = none) (s y : Operand) (t : TypeId)
    (ho : o.op = .call { callee := .builtin .append, args := #[s, y], argTypes := #[t, t] }) (v x : Value) (hs : a.eval s = v) (hy : a.eval y = x) (v' : Value) (w' : World) (hrun : (Builtin.append_ #[t, t] o.type #[v, x]).run P w = .ok v' w')
    (h : wpListIn Fn nn P ops Q rest (a.put o.dst v') w') : wpListIn Fn nn P ops Q (o :: rest) a w := by
  refine wpListIn_plain hgd fun K' hK' => ?_
  unfold Oper.wpIn
  refine ⟨by simp [Oper.about, ho, resolve, Target.leads, Sem.run_pure], ?_⟩
  rw [Oper.semAt_plain Fn _ _ (by rw [ho]; intro c hc'; cases hc')]
  simp [execOp, ho, resolve, invoke, builtin, hs, hy, hrun, Result.andThen]
  exact hK' _ _ h

theorem grown_keeps8 {B : Nat} {W W' : World} (h : Below W.heap.size W W') : KeepsFrom B W W' := KeepsFrom.of_grownBy (grown_of_below h) fun j e => by cases e

theorem IR.keeps {base : Nat} {l : List Int} {v : Value} {W W' : World} {row : Option Nat} (h : IR base l v W) (hg : W.grownBy W' row) (hr : ∀ r, row = some r → ∃ o : Obj, W.heap[r]? = some o ∧ o.isCells = false) : IR base l v W' := by
  rcases h.split with ⟨rfl, rfl⟩ | ⟨g, cap, cur, rfl, hb, hlt, hcur, h1, h2, h3, h4⟩
  · exact IR.bare _ _
  · refine IR.of_block rfl hb ((hg.block g hlt fun e => ?_).trans hcur) h1 h2 h3 h4 h.rng
    obtain ⟨o, ho, hc⟩ := hr g e.symm
    rw [hcur] at ho
    cases ho
    cases hc

theorem IR.apart {base : Nat} {l : List Int} {v : Value} {W W' : World} {X : Nat → Prop} (h : IR base l v W) (ho : Only X W W') (hX : ∀ q, X q → q < base) : IR base l v W' := by
  rcases h.split with ⟨rfl, rfl⟩ | ⟨g, cap, cur, rfl, hb, hlt, hcur, h1, h2, h3, h4⟩
  · exact IR.bare _ _
  · exact IR.of_block rfl hb ((ho.block g hlt fun h => by have := hX g h; omega).trans hcur) h1 h2 h3 h4 h.rng

theorem take_snoc {α : Type} {l : List α} {k : Nat} (h : k < l.length) : l.take (k + 1) = l.take k ++ [l[k]] := List.take_succ_eq_append_getElem h

/-- What holds when some have come. -/
def ApX (W7 : World) (Bs : Nat) (X : Nat → Prop) (zs : List Int) (k : Nat) (W : World) : Prop :=
  Only (fun j => j = Bs ∨ X j) W7 W ∧ ∃ v, W.heap[Bs]? = some (.cells #[v] 28) ∧ IR W7.heap.size (zs.take k) v W

theorem ApX.beside {W7 W W' : World} {Bs : Nat} {X : Nat → Prop} {zs : List Int} {k : Nat} (h : ApX W7 Bs X zs k W) (hp : Bs < W7.heap.size) {row : Option Nat} (hg : W.grownBy W' row) (hr : ∀ r, row = some r → W7.heap.size ≤ r ∧ ∃ o : Obj, W.heap[r]? = some o ∧ o.isCells = false) : ApX W7 Bs X zs k W' := by
  obtain ⟨ho, v, h1, h2⟩ := h
  refine ⟨ho.thn (fun j hj => .inr (hr j hj).1) (only_of_grown (X := fun j => row = some j) hg fun k hk => hk), v, ?_, h2.keeps hg fun r e => (hr r e).2⟩
  exact (hg.block Bs (lt_of_heap h1) fun e => by have := (hr Bs e.symm).1; omega).trans h1

theorem ApX.turn {W7 W W' : World} {Bs : Nat} {X : Nat → Prop} {zs : List Int} {k : Nat} (h : ApX W7 Bs X zs k W) (hX : ∀ q, X q → q < Bs) (hs : Bs < W7.heap.size) (ho : Only X W W') : ApX W7 Bs X zs k W' := by
  obtain ⟨h0, v, h1, h2⟩ := h
  exact ⟨h0.then (ho.mono fun q hq => .inr hq), v, (ho.block Bs (lt_of_heap h1) fun h => by have := hX Bs h; omega).trans h1, h2.apart ho fun q hq => by have := hX q hq; omega⟩

theorem AlS.rng {w : World} {X : Nat → Prop} {ga : Nat} {l : List Al} (h : AlS w X ga l) : Rg l := by
  obtain ⟨L, h1, h2, _⟩ := h
  intro x hx
  have hx2 := (h2.2 x).2 hx
  rcases h1 with ⟨rfl, _⟩ | ⟨gr, gm, c, _, hi, _⟩
  · simp at hx2
  · exact hi.rng x hx2

set_option maxRecDepth 20000 in
set_option maxHeartbeats 3200000 in
theorem AppendSeq_any (ga gp gq : Nat) (now : Int) (X : Nat → Prop) (l0 : List Al) (N : Nat) (hN : N = dueN l0 now) (zs : List Int) (hzs : zs = (l0.take N).map (·.2)) (hl : N ≤ 1000000) (w : World) (he : AlS w X ga l0)
    (hX : ∀ q, X q → q < w.heap.size) (hp : w.heap[gp]? = some (.cells #[.pointer (some ⟨ga, 0, none⟩)] 74)) (hq : w.heap[gq]? = some (.cells #[.int .i64 now] 3)) (hpx : ¬ X gp) (hqx : ¬ X gq) :
    Calls Try.prog 57 #[.slice none 0 0, .func (.func 58) #[] #[.pointer (some ⟨gp, 0, none⟩), .pointer (some ⟨gq, 0, none⟩)]] w fun e w' => ∃ v, e = .returned v ∧ Only X w w' ∧ AlS w' X ga (l0.drop N) ∧ IR w.heap.size zs v w' := by
  have hzl : zs.length = N := by rw [hzs, List.length_map, List.length_take]; have := dueN_le l0 now; omega
  have hzr : In64 zs := fun z hz => by
    rw [hzs] at hz
    obtain ⟨x, hx, rfl⟩ := List.mem_map.1 hz
    exact (he.rng x (List.mem_of_mem_take hx)).2
  have henc : ∀ k, k < N → (l0.getD k (0, 0)).2 = zs.getD k 0 := fun k hk => by
    have h1 : k < l0.length := by have := dueN_le l0 now; omega
    rw [hzs, List.getD_eq_getElem?_getD, List.getD_eq_getElem?_getD, List.getElem?_map, List.getElem?_take_of_lt hk, List.getElem?_eq_getElem h1]
    rfl
  obtain ⟨W7, hW7⟩ : ∃ W7, W7 = w.alloc (.cells #[.slice none 0 0] 28) := ⟨_, rfl⟩
  have hb7 : Below w.heap.size w W7 := by rw [hW7]; exact below_alloc _ _
  have hx7 : W7.heap[w.heap.size]? = some (.cells #[.slice none 0 0] 28) := by rw [hW7]; exact heap_new _ _ _ rfl
  have hz7 : W7.heap.size = w.heap.size + 1 := by rw [hW7]; simp
  have hpl := lt_of_heap hp
  have hql := lt_of_heap hq
  have hcp := (hb7.block gp hpl).trans hp
  have hcq := (hb7.block gq hql).trans hq
  have HIN : Hid (∀ (l : Nat) (J : Nat → (Nat → Option Obj) → World → Prop) (W : World), (∀ k S W, J k S W → (W.cell? ⟨gp, 0, none⟩ = some (.pointer (some ⟨ga, 0, none⟩)) ∧ W.cell? ⟨gq, 0, none⟩ = some (.int .i64 now)) ∧ ∀ q, X q → W.heap[q]? = S q) →
      (∀ k S W W', J k S W → Only X W W' → J k (fun q => W'.heap[q]?) W') →
      (∀ k S W1, k < N → J k S W1 → YieldAt Fence.wide (3 - 1 - 1) Try.prog l #[.int .i64 (l0.getD k (0, 0)).2] W1 fun e W' => e = .returned (.bool true) ∧ J (k + 1) S W') → (∃ S, J 0 S W) → AlS W X ga l0 →
      CallsIn Fence.wide (3 - 1) Try.prog 58 (#[.func (.yield l) #[] #[]] ++ #[.pointer (some ⟨gp, 0, none⟩), .pointer (some ⟨gq, 0, none⟩)]) W fun e W' => (∃ v, e = .returned v) ∧ (∃ S, J N S W') ∧ AlS W' X ga (l0.drop N)) :=
    Lib.hid fun l J W hJ hT hY h0 he => ring_in l ga gp gq now X l0 N hN J W hJ hT hY h0 he
  have hI0 : ApX W7 w.heap.size X zs 0 W7 := ⟨Only.refl _ _, _, hx7, by simpa using IR.bare _ _⟩
  have hkeep : ∀ k W, ApX W7 w.heap.size X zs k W → (W.cell? ⟨gp, 0, none⟩ = some (.pointer (some ⟨ga, 0, none⟩)) ∧ W.cell? ⟨gq, 0, none⟩ = some (.int .i64 now)) := fun k W h =>
    ⟨cell_of_row _ _ 0 _ _ _ ((h.1.block gp (by omega) (fun e => e.elim (by omega) hpx)).trans hcp), cell_of_row _ _ 0 _ _ _ ((h.1.block gq (by omega) (fun e => e.elim (by omega) hqx)).trans hcq)⟩
  have HN := Lib.hid hzl
  have HR := Lib.hid hzr
  have HK := Lib.hid hkeep
  have HI0 := Lib.hid hI0
  have HB7 := Lib.hid hb7
  have HZ7 := Lib.hid hz7
  have HW7 := Lib.hid hW7
  have HEN := Lib.hid henc
  have HX := Lib.hid hX
  have HE := Lib.hid (he.next hb7)
  clear hN hzs he hX hp hq hpx hqx hzl hzr henc hb7 hx7 hz7 hpl hql hcp hcq hI0 hkeep hW7
  refine (callsIn_wide (n := 3)).1 ?_
  refine callsIn_of_wp_marks Try.func57 rfl trivial ?_ rfl
  simp only [Try.ntmps57, List.size_toArray, List.length_cons, List.length_nil, Nat.reduceAdd, Nat.reduceSub, Array.replicate_succ, Array.replicate_zero, List.push_toArray, List.append_toArray, List.nil_append, List.cons_append]
  gi_wp2
  rw [← HW7.out]
  have HNS : Hid (w.heap.size < W7.heap.size) := Lib.hid (by have := HZ7.out; omega)
  obtain ⟨Bs, hBs⟩ : ∃ Bs, Bs = w.heap.size := ⟨_, rfl⟩
  rw [← hBs] at HI0 HK HNS HX ⊢
  have HBS := Lib.hid hBs
  clear hBs
  refine wpIn_rangeFunc_byT (F := Fence.wide) (n := 3) rfl (by omega) (gf := 58) (lb := #[.pointer (some ⟨gp, 0, none⟩), .pointer (some ⟨gq, 0, none⟩)]) rfl trivial (enters_of Try.func58 (by kernel_rfl) rfl)
    N (fun k => #[.int .i64 (l0.getD k (0, 0)).2]) (fun _ => rfl) (fun W => W.cell? ⟨gp, 0, none⟩ = some (.pointer (some ⟨ga, 0, none⟩)) ∧ W.cell? ⟨gq, 0, none⟩ = some (.int .i64 now)) X (fun q hq => by have := HX.out q hq; have := HNS.out; omega)
    (fun W => AlS W X ga l0) (fun W => AlS W X ga (l0.drop N)) (fun W W' h hs => h.same (fun _ h => h) fun q hq _ => hs q hq) (fun W W' h hs => h.same (fun _ h => h) fun q hq _ => hs q hq) HIN.out
    (ApX W7 Bs X zs) (fun s W W' row hs hg hr => hs.beside HNS.out hg hr) (fun k W W' h ho => h.turn HX.out HNS.out ho) HK.out HI0.out HE.out
    (fun k a' _ => a' = { tmps := #[.slice none 0 0, .func (.func 58) #[] #[.pointer (some ⟨gp, 0, none⟩), .pointer (some ⟨gq, 0, none⟩)], .pointer (some ⟨Bs, 0, none⟩), undef, .slice none 0 0, .int .i64 (l0.getD k (0, 0)).2, .func (.func 58) #[] #[.pointer (some ⟨gp, 0, none⟩), .pointer (some ⟨gq, 0, none⟩)], .int .i64 (l0.getD k (0, 0)).2, undef, undef, undef, undef, undef], defers := [] })
    (fun _ _ _ _ _ hs _ _ => hs) ?assign ?body ?done
  case assign =>
    intro l k W K hI hk hK
    have HK2 := Lib.hid hK
    clear hK
    gi_wp2
    exact HK2.out _ rfl
  case body =>
    rintro l k a' W ⟨ho, v, h1, h2⟩ rfl hk
    have hk2 : k < zs.length := by rw [HN.out]; exact hk
    have hg : (l0.getD k (0, 0)).2 = zs[k] := by rw [HEN.out k hk, List.getD_eq_getElem?_getD, List.getElem?_eq_getElem hk2]; rfl
    rw [hg]
    obtain ⟨x, hx⟩ : ∃ x, x = zs[k] := ⟨_, rfl⟩
    rw [← hx]
    have hxb := HR.out _ (List.getElem_mem hk2)
    rw [← hx] at hxb
    have htk : zs.take (k + 1) = zs.take k ++ [x] := by rw [hx]; exact take_snoc hk2
    obtain ⟨a2, c2, rfl⟩ := h2.slice
    have hm : (zs.take k).length = k := by simp; omega
    rw [hm] at h1 h2
    obtain ⟨e0, z0, bz⟩ := block1 h1
    have hb1 := below_alloc W (.cells #[.int .i64 x] 3)
    obtain ⟨ib, hib, hib0, hib1, hib2⟩ := info_parts infoInt
    obtain ⟨v', w3, hrun, happ⟩ := run_append_any (P := Try.prog) (W.alloc (.cells #[.int .i64 x] 3)) W7.heap.size 28 28 3 ib (.int .i64 0) 1 8 Try.underlying28 hib hib0 hib1 hib2 rfl (by decide) _ _ _ (h2.next hb1).own (.slice (some ⟨W.heap.size, 0, none⟩) 1 1) 1 [intV x]
      (one_int rfl hxb).yields (by unfold maxLen; omega) (by omega) (by have := ho.size; simp; omega)
    have hnb : (Value.slice a2 k c2).ownBlock ≠ some Bs := fun e => by have := (h2.block_lt e).1; have := HNS.out; omega
    have hq : w3.heap[Bs]? = some (.cells #[.slice a2 k c2] 28) := (happ.2.1.block Bs (by simp; omega) fun e => hnb e.symm).trans (old_below h1 hb1)
    have hir : IR W7.heap.size (zs.take (k + 1)) v' w3 := ⟨by rw [htk, List.map_append, List.length_append]; exact happ.1, fun y hy => HR.out y (List.mem_of_mem_take hy)⟩
    have hnb' : v'.ownBlock ≠ some Bs := fun e => by have := (hir.block_lt e).1; have := HNS.out; omega
    have hkp : KeepsFrom W7.heap.size W (w3.setCell ⟨Bs, 0, none⟩ v') := ((grown_keeps8 hb1).trans ((KeepsOthers.of_grownBy happ.2.1 fun j o hj hjo => by
      rcases (h2.next hb1).split with ⟨-, h⟩ | ⟨g, cap, cur, h, -, -, hcur, -⟩
      · rw [h] at hj; cases hj
      · rw [h] at hj
        cases hj
        rw [hcur] at hjo
        cases hjo
        rfl).from _)).trans ((KeepsOthers.setCell w3 _ _).from _)
    have hfin : ApX W7 Bs X zs (k + 1) (w3.setCell ⟨Bs, 0, none⟩ v') := by
      refine ⟨((ho.next hb1).thn (X1 := fun j => (Value.slice a2 k c2).ownBlock = some j) (fun j hj => .inr ((h2.block_lt hj).1)) (only_of_grown happ.2.1 fun k hk => hk)).set (.inl (.inl rfl)) _, v', ?_, hir.set hnb'⟩
      simp [World.setCell, Array.getElem?_modify, hq]
    have hxs : ∀ q, X q → (w3.setCell ⟨Bs, 0, none⟩ v').heap[q]? = W.heap[q]? := fun q hq => by
      have h8 := HX.out q hq
      have h9 := lt_of_heap h1
      rw [Below.heap_setCell _ _ _ _ (by show q ≠ Bs; omega)]
      refine (happ.2.1.block q (by simp; omega) fun e => ?_).trans (hb1.block q (by omega))
      have := (h2.block_lt e.symm).1
      have := HNS.out
      omega
    obtain ⟨a3, c3, hv3⟩ := hir.slice
    obtain ⟨m3, hm3⟩ : ∃ m3, m3 = (zs.take (k + 1)).length := ⟨_, rfl⟩
    rw [← hm3] at hv3
    subst hv3
    clear hm3
    obtain ⟨f0, y0, fz⟩ := block1 hq
    have HKP := Lib.hid hkp
    have HFIN := Lib.hid hfin
    have HXS := Lib.hid hxs
    clear hk2 hg hx hxb htk hm h1 h2 hb1 happ hnb hq hir hnb' hkp hfin ho hib hib0 hib1 hib2 hxs
    gi_wp2_with (first | (gi_at_builtin; refine wpListIn_append_run _ rfl (.tmp 8) (.tmp 10) 28 rfl _ _ rfl rfl _ _ hrun ?_))
    exact ⟨HKP.out, HFIN.out, HXS.out⟩
  case done =>
    rintro D W hD ⟨ho, v, h1, h2⟩ hE hK
    rw [List.take_of_length_le (by rw [HN.out]; exact Nat.le_refl _)] at h2
    obtain ⟨a2, c2, rfl⟩ := h2.slice
    obtain ⟨y0, yf, yz⟩ := block1 h1
    have HO := Lib.hid ho
    have H2 := Lib.hid h2
    have HK2 := Lib.hid hK
    have HEE := Lib.hid hE
    clear ho h1 h2 hK hE
    gi_wp2
    refine ⟨by simp, .inl ⟨_, _, rfl, run_takeDeferred HK2.out, ?_⟩⟩
    have hr3 := H2.out.keeps (grownBy_putObj' W D (.deferred none)) fun r e => by cases e; exact ⟨_, HK2.out, rfl⟩
    refine ⟨.slice a2 zs.length c2, by simp [results, Try.f57, go_sem], _, rfl, ?_, ?_, hr3.lower HB7.out.size⟩
    · have hoo : Only (fun j => j = Bs ∨ X j ∨ j = D) W7 (W.putObj D (.deferred none)) := (HO.out.mono fun j hj => hj.imp id .inl).thn (fun j hj => .inl (.inr (.inr (Option.some.inj hj).symm))) (only_of_grown (X := fun j => some D = some j) (grownBy_putObj' W D (.deferred none)) fun k hk => hk)
      refine Only.thn (X := X) (Only.of_below HB7.out) (fun j hj => ?_) hoo
      have := HBS.out
      have := HNS.out
      rcases hj with h | h | h
      · right; omega
      · exact .inl h
      · right; omega
    · exact HEE.out.same (fun _ h => h) fun q hq _ => World.putObj_heap_other (by have := HX.out q hq; have := HNS.out; omega)
end Go.Proofs.Ytckankoaiapcoaa.M

/- Part: TmM. -/
namespace Go.Proofs.Ytckankoaiapcoaa.M
open Go.RowKit Go.Maps Go.Shelf
open Tm (Al at' alt swL Pl HpF UpI DnI Sm srt setS clrS Uq)

/-- The keys that come due. -/
def dueK (l : List Al) (now : Int) : List Int := (l.take (dueN l now)).map (·.2)

/-- What Due leaves. -/
def DuePost (X : Nat → Prop) (ga : Nat) (l : List Al) (now : Int) (w : World) (e : Ending) (w' : World) : Prop :=
  ∃ v, e = .returned v ∧ Only X w w' ∧ AlS w' X ga (l.drop (dueN l now)) ∧ IR w.heap.size (dueK l now) v w'

set_option maxRecDepth 20000 in
theorem ring_any (ga : Nat) (now : Int) (w : World) :
    Calls Try.prog 39 #[.pointer (some ⟨ga, 0, none⟩), .int .i64 now] w fun e w' => e = .returned (.func (.func 58) #[] #[.pointer (some ⟨w.heap.size, 0, none⟩), .pointer (some ⟨w.heap.size + 1, 0, none⟩)]) ∧
      w' = (w.alloc (.cells #[.pointer (some ⟨ga, 0, none⟩)] 74)).alloc (.cells #[.int .i64 now] 3) := by
  have hmf : ∀ (fn : Fn) (first cap : Array Value) (w : World), (Instr.makeFunc fn first cap).run Try.prog w = .ok (.func fn first cap) w := fun _ _ _ _ => rfl
  go_enter Try.func39, Try.ntmps39
  go_wp2_with fail
  go_ret
  exact ⟨rfl, rfl⟩

set_option maxRecDepth 20000 in
set_option maxHeartbeats 1600000 in
theorem Due_any (ga : Nat) (X : Nat → Prop) (l : List Al) (now : Int) (w : World) (h : AlS w X ga l) (hX : ∀ q, X q → q < w.heap.size) (hl : l.length ≤ 1000000) :
    Calls Try.prog 20 #[.pointer (some ⟨ga, 0, none⟩), .int .i64 now] w (DuePost X ga l now w) := by
  obtain ⟨W, hW⟩ : ∃ W, W = (w.alloc (.cells #[.pointer (some ⟨ga, 0, none⟩)] 74)).alloc (.cells #[.int .i64 now] 3) := ⟨_, rfl⟩
  have hb : Below w.heap.size w W := by rw [hW]; exact (below_alloc _ _).alloc (by simp) _
  have hsz : W.heap.size = w.heap.size + 2 := by rw [hW]; simp
  have hp : W.heap[w.heap.size]? = some (.cells #[.pointer (some ⟨ga, 0, none⟩)] 74) := by rw [hW]; exact old_alloc (heap_new _ _ _ rfl)
  have hq : W.heap[w.heap.size + 1]? = some (.cells #[.int .i64 now] 3) := by rw [hW]; exact heap_new _ _ _ (by simp)
  have HC := AppendSeq_any ga w.heap.size (w.heap.size + 1) now X l (dueN l now) rfl (dueK l now) rfl (by have := dueN_le l now; omega) W (h.next hb) (fun q hq => by have := hX q hq; omega) hp hq (fun h => by have := hX _ h; omega) (fun h => by have := hX _ h; omega)
  have HC := Lib.hid HC
  have HR := Lib.hid (ring_any ga now w)
  rw [← hW] at HR
  have HB := Lib.hid hb
  clear hb hsz hp hq h hX hl hW
  have HCO : Hid (Calls Try.prog 38 #[.func (.func 58) #[] #[.pointer (some ⟨w.heap.size, 0, none⟩), .pointer (some ⟨w.heap.size + 1, 0, none⟩)]] W (DuePost X ga l now w)) := by
    refine Lib.hid ?_
    clear HR
    go_enter Try.func38, Try.ntmps38
    go_wp2_with fail
    refine HC.out.mono ?_
    rintro e w2 ⟨v, rfl, ho, ha, hi⟩
    have HF : Hid (DuePost X ga l now w (.returned v) w2) := Lib.hid ⟨v, rfl, (Only.of_below HB.out).then ho, ha, hi.lower HB.out.size⟩
    clear ho ha hi
    go_wp2_with fail
    go_ret
    exact HF.out
  clear HC
  go_enter Try.func20, Try.ntmps20
  go_wp2_with fail
  refine HR.out.mono ?_
  rintro e w2 ⟨rfl, rfl⟩
  go_wp2_with fail
  refine HCO.out.mono ?_
  rintro e w3 ⟨v, rfl, h3⟩
  have H3 := Lib.hid h3
  clear h3
  go_wp2_with fail
  go_ret
  exact ⟨v, rfl, H3.out⟩
end Go.Proofs.Ytckankoaiapcoaa.M
