/- The document's disk: add. The document's disk: Rename. -/
import Derived.Test.YtbcpcopapbgcdaaGreatDoorSZ21
import Derived.Deep.QuietTactic
import Derived.BigQuiet
/- Part: DiskRef5. -/
namespace Go.Proofs.YtbcpcopapbgcdaaGreatDoor.M
open Go.RowKit
open D (Fl Dk)

/-- The disk, behind the making of another list of files. -/
theorem relist_done {w w2 wF : World} {d : Dk} {X : Nat → Prop} {gd : Nat} {vl v2 : Value} {fv fv2 : List (Fl × Value)} {cc : Int} (hat : DkAt w X gd d vl fv) (hX : ∀ k, X k → k < w.heap.size)
    (hcc : d.ends = true → cc = (d.calls : Int)) (hsz : w.heap.size ≤ w2.heap.size) (hold : ∀ k, k < w.heap.size → w2.heap[k]? = w.heap[k]?) (hos : w2.os = w.os ∧ w2.tape = w.tape ∧ w2.output = w.output)
    (ho : w2.ownsRow 0 147 3 v2 fv2.length (flCells fv2)) (hno : ∀ k, v2.ownBlock = some k → w.heap.size ≤ k ∧ k < w2.heap.size)
    (hf2 : ∀ p ∈ fv2, w.ownsRow 0 5 1 p.2 p.1.b.length (p.1.b.map byteV) ∧ ∀ k, p.2.ownBlock = some k → X k ∧ k ≠ gd) (hnd : (fv2.flatMap fun p : Fl × Value => p.2.ownBlock.toList).Nodup)
    (hFo : ∀ k, k ≠ gd → wF.heap[k]? = w2.heap[k]?) (hFg : wF.heap[gd]? = some (.cells #[.int .i64 d.room, v2, .bool d.ends, .int .i64 cc] 69)) (hFs : wF.heap.size = w2.heap.size)
    (hFw : wF.os = w2.os ∧ wF.tape = w2.tape ∧ wF.output = w2.output) :
    Only (fun k => k = gd) w wF ∧ DkAt wF (More X w wF) gd { d with fs := fv2.map (·.1) } v2 fv2 := by
  have hgw := hX gd hat.own
  have hkeep : ∀ k, k < w.heap.size → k ≠ gd → wF.heap[k]? = w.heap[k]? := fun k hk hg => (hFo k hg).trans (hold k hk)
  refine ⟨⟨hFw.1.trans hos.1, hFw.2.1.trans hos.2.1, hFw.2.2.trans hos.2.2, by omega, fun k hk hn => hkeep k hk hn⟩, ⟨⟨cc, hFg, hcc⟩, rfl, ownsRow_same ho fun k hk => ?_, fun p hp => ?_, ?_, ?_⟩⟩
  · have := hno k hk
    exact hFo k (by omega)
  · exact ownsRow_same (hf2 p hp).1 fun k hk => by
      obtain ⟨h1, h2⟩ := (hf2 p hp).2 k hk
      exact hkeep k (hX k h1) h2
  · rw [blocksOf, List.cons_append, List.nodup_cons]
    refine ⟨fun hm => ?_, List.nodup_append.2 ⟨?_, hnd, fun x hx y hy e => ?_⟩⟩
    · rcases List.mem_append.1 hm with hm | hm
      · have := hno gd (by simpa using hm)
        omega
      · obtain ⟨p, hp, hk⟩ := List.mem_flatMap.1 hm
        exact ((hf2 p hp).2 gd (by simpa using hk)).2 rfl
    · cases v2.ownBlock <;> simp
    · have h1 := hno x (by simpa using hx)
      obtain ⟨p, hp, hk⟩ := List.mem_flatMap.1 hy
      have h2 := hX y ((hf2 p hp).2 y (by simpa using hk)).1
      omega
  · intro k hk
    rw [blocksOf, List.cons_append, List.mem_cons, List.mem_append, List.mem_flatMap] at hk
    rcases hk with rfl | hk | ⟨p, hp, hk⟩
    · exact .inl hat.own
    · have := hno k (by simpa using hk)
      exact .inr ⟨by omega, by omega⟩
    · exact .inl ((hf2 p hp).2 k (by simpa using hk)).1

/-- A row of files that a call makes, since the world w; behind w one block was made. -/
structure AddAt (w : World) (box : Obj) (n : Nat) (xs : List Value) (v : Value) (wr : World) : Prop where
  os : wr.os = w.os
  tape : wr.tape = w.tape
  output : wr.output = w.output
  size : w.heap.size + 1 ≤ wr.heap.size
  old : ∀ k, k < w.heap.size → wr.heap[k]? = w.heap[k]?
  bx : wr.heap[w.heap.size]? = some box
  row : wr.ownsRow 0 147 3 v n xs
  new : ∀ k, v.ownBlock = some k → w.heap.size + 1 ≤ k

theorem AddAt.app {w wr w' : World} {box : Obj} {n m : Nat} {xs news : List Value} {v v' : Value} (h : AddAt w box n xs v wr) (ha : AppLeft wr 0 147 3 v n m xs news v' w') : AddAt w box (n + m) (xs ++ news) v' w' := by
  obtain ⟨h1, h2, h3⟩ := ha
  have hs := h.size
  have hne : ∀ k, k < w.heap.size + 1 → v.ownBlock ≠ some k := fun k hk e => by have := h.new k e; omega
  refine ⟨h2.os.trans h.os, h2.tape.trans h.tape, h2.output.trans h.output, Nat.le_trans hs h2.size, fun k hk => (h2.block k (by omega) fun e => hne k (by omega) e.symm).trans (h.old k hk),
    (h2.block _ (by omega) fun e => hne _ (by omega) e.symm).trans h.bx, h1, fun k hk => ?_⟩
  rcases h3 with h3 | h3
  · exact h.new k (by rw [← h3]; exact hk)
  · rw [hk] at h3
    cases h3
    exact hs

theorem AddAt.alloc {w wr : World} {box : Obj} {n : Nat} {xs : List Value} {v : Value} (h : AddAt w box n xs v wr) (o : Obj) : AddAt w box n xs v (wr.alloc o) := by
  have hs := h.size
  exact ⟨h.os, h.tape, h.output, by simp; omega, fun k hk => by rw [Below.heap_alloc _ _ _ (by omega)]; exact h.old k hk, old_alloc h.bx, h.row.alloc o, h.new⟩

theorem wpList_add_append {w wr : World} {ops : Array Oper} {rest : List Oper} {o : Oper} {a : Act} {Q : Exit → Act → World → Prop} (hgd : o.guard = none) (s y : Operand)
    (ho : o.op = .call { callee := .builtin .append, args := #[s, y], argTypes := #[67, 67] })
    {box : Obj} {n m : Nat} {xs news : List Value} {v x : Value} (hs : a.eval s = v) (hown : AddAt w box n xs v wr) (hy : a.eval y = x) (hx : Yields wr x m 3 news) (hl : n + m ≤ 10000)
    (h : ∀ v' w', AddAt w box (n + m) (xs ++ news) v' w' → wpList Tryz.prog ops Q rest (a.put o.dst v') w') : wpList Tryz.prog ops Q (o :: rest) a wr := by
  obtain ⟨iF, hiF, hiF0, hiF1, hiF2⟩ := info_parts infoFile
  exact wpList_append_any wr hgd s y 67 ho 0 147 iF (.agg #[.string ByteArray.empty, .slice none 0 0, .int .i64 0]) 3 48 Tryz.underlying67 hiF hiF0 hiF1 hiF2 rfl (by decide) v n xs hs hown.row x hy m news hx
    (by unfold maxLen; omega) (by omega) (Nat.zero_le _) fun v' w' ha => h v' w' (hown.app ha)

theorem yields_none (w : World) : Yields w (.slice none 0 0) 0 3 [] := ⟨rfl, by simp, .inl ⟨rfl, rfl⟩⟩

theorem yields_bare (w : World) (a : Addr) (c : Nat) : Yields w (.slice (some a) 0 c) 0 3 [] := ⟨rfl, by simp, .inr ⟨a, c, rfl, by simp⟩⟩

theorem yields_new {w : World} {p : Fl × Value} {a : Option Addr} {n c g : Nat} (hp : p.2 = .slice a n c) (hg : g = w.heap.size) :
    Yields (w.alloc (.cells #[.string p.1.nm, .slice a n c, .int .i64 (p.1.safe : Int)] 147)) (.slice (some ⟨g, 0, none⟩) 1 1) 1 3 (flCells [p]) := by
  subst hg
  refine ⟨by simp [flCells, flV], ?_, .inr ⟨_, 1, rfl, fun j u hj => ?_⟩⟩
  · intro u hu
    simp only [flCells, flV, List.flatMap_cons, List.flatMap_nil, List.append_nil, List.mem_cons, List.not_mem_nil, or_false, hp] at hu
    rcases hu with rfl | rfl | rfl <;> rfl
  · have h := cell_of_row _ w.heap.size j _ _ _ (heap_alloc_new w (.cells #[.string p.1.nm, .slice a n c, .int .i64 (p.1.safe : Int)] 147))
    have e : ((⟨w.heap.size, 0, none⟩ : Addr).add j) = ⟨w.heap.size, j, none⟩ := by cases j <;> simp [Addr.add]
    rw [e, h]
    simpa [flCells, flV, hp] using hj

/-- The disk, behind the adding of a file. -/
theorem add_done {w w3 wF : World} {box : Obj} {d : Dk} {X : Nat → Prop} {gd k : Nat} {vl v3 v : Value} {fv : List (Fl × Value)} {f : Fl} {cc : Int} (hat : DkAt w X gd d vl fv) (hX : ∀ k, X k → k < w.heap.size) (hcc : d.ends = true → cc = (d.calls : Int))
    (hk : k = D.place d.fs f.nm) (hA : AddAt w box (fv.take k ++ (f, v) :: fv.drop k).length (flCells (fv.take k ++ (f, v) :: fv.drop k)) v3 w3)
    (hfo : w.ownsRow 0 5 1 v f.b.length (f.b.map byteV)) (hfb : ∀ k, v.ownBlock = some k → X k ∧ k ∉ blocksOf gd vl fv)
    (hF : wF = w3.setCell ⟨gd, 1, none⟩ v3) (hb : w.heap[gd]? = some (.cells #[.int .i64 d.room, vl, .bool d.ends, .int .i64 cc] 69)) :
    Only (fun k => k = gd) w wF ∧ Dsk wF (More X w wF) gd { d with fs := D.add d.fs f } := by
  have hgw := hX gd hat.own
  have hap := hat.apart
  have hsub : ∀ p ∈ fv.take k ++ (f, v) :: fv.drop k, p ∈ fv ∨ p = (f, v) := fun p hp => by
    rcases List.mem_append.1 hp with h | h
    · exact .inl (List.mem_of_mem_take h)
    · rcases List.mem_cons.1 h with h | h
      · exact .inr h
      · exact .inl (List.mem_of_mem_drop h)
  have hvn : ∀ k, v.ownBlock = some k → k ≠ gd ∧ k ∉ fv.flatMap fun p : Fl × Value => p.2.ownBlock.toList := fun j hj => by
    have := (hfb j hj).2
    rw [blocksOf, List.cons_append, List.mem_cons, List.mem_append, not_or, not_or] at this
    exact ⟨this.1, this.2.2⟩
  have hnd : ((fv.take k ++ (f, v) :: fv.drop k).flatMap fun p : Fl × Value => p.2.ownBlock.toList).Nodup := by
    have h1 : (fv.flatMap fun p : Fl × Value => p.2.ownBlock.toList).Nodup := by
      rw [blocksOf] at hap
      exact (List.nodup_append.1 hap).2.1
    rw [← List.take_append_drop k fv, List.flatMap_append] at h1
    have hv : ∀ x, x ∈ v.ownBlock.toList → x ∉ (fv.take k).flatMap (fun p : Fl × Value => p.2.ownBlock.toList) ∧ x ∉ (fv.drop k).flatMap (fun p : Fl × Value => p.2.ownBlock.toList) := fun x hx => by
      have := (hvn x (by simpa using hx)).2
      rw [← List.take_append_drop k fv, List.flatMap_append, List.mem_append, not_or] at this
      exact this
    obtain ⟨a1, a2, a3⟩ := List.nodup_append.1 h1
    rw [List.flatMap_append, List.flatMap_cons]
    refine List.nodup_append.2 ⟨a1, List.nodup_append.2 ⟨?_, a2, fun x hx y hy e => ?_⟩, fun x hx y hy e => ?_⟩
    · cases v.ownBlock <;> simp
    · subst e; exact (hv x hx).2 hy
    · subst e
      rcases List.mem_append.1 hy with hy | hy
      · exact (hv x hy).1 hx
      · exact a3 x hx x hy rfl
  have hb3 : w3.heap[gd]? = some (.cells #[.int .i64 d.room, vl, .bool d.ends, .int .i64 cc] 69) := (hA.old gd hgw).trans hb
  have h := relist_done (w2 := w3) (wF := wF) (v2 := v3) (fv2 := fv.take k ++ (f, v) :: fv.drop k) (cc := cc) hat hX hcc (by have := hA.size; omega) hA.old ⟨hA.os, hA.tape, hA.output⟩ hA.row
    (fun j hj => ⟨by have := hA.new j hj; omega, (hA.row.lt j hj).2⟩)
    (fun p hp => by
      rcases hsub p hp with h | rfl
      · refine ⟨hat.each p h, fun j hj => ⟨hat.foot j (mem_blocks_file h hj), fun e => ?_⟩⟩
        rw [blocksOf, List.cons_append, List.nodup_cons] at hap
        apply hap.1
        rw [← e, List.mem_append, List.mem_flatMap]
        exact .inr ⟨p, h, by simp [hj]⟩
      · exact ⟨hfo, fun j hj => ⟨(hfb j hj).1, (hvn j hj).1⟩⟩)
    hnd (fun j hj => by rw [hF, Below.heap_setCell _ _ _ _ (by simpa using hj)]) (by rw [hF, heap_setCell_same _ _ _ _ _ _ hb3]; simp) (by rw [hF]; simp) (by rw [hF]; exact ⟨rfl, rfl, rfl⟩)
  refine ⟨h.1, v3, fv.take k ++ (f, v) :: fv.drop k, ?_⟩
  have e : (fv.take k ++ (f, v) :: fv.drop k).map (·.1) = D.add d.fs f := by
    unfold D.add
    rw [← hk, List.map_append, List.map_cons, List.map_take, List.map_drop, hat.fs]
  rw [← e]
  exact h.2

set_option maxRecDepth 20000 in
set_option maxHeartbeats 3200000 in
theorem RefAdd_any (d : Dk) (X : Nat → Prop) (gd : Nat) (vl : Value) (fv : List (Fl × Value)) (f : Fl) (fa : Option Addr) (fc : Nat) (w : World) (hat : DkAt w X gd d vl fv) (hX : ∀ k, X k → k < w.heap.size) (h4 : Hid (fv.length ≤ 4096))
    (hfo : w.ownsRow 0 5 1 (.slice fa f.b.length fc) f.b.length (f.b.map byteV)) (hfb : ∀ k, (Value.slice fa f.b.length fc).ownBlock = some k → X k ∧ k ∉ blocksOf gd vl fv) :
    Calls Tryz.prog 100 #[.pointer (some ⟨gd, 0, none⟩), .agg #[.string f.nm, .slice fa f.b.length fc, .int .i64 (f.safe : Int)]] w fun e w' => e = .returned (.tuple #[]) ∧ Only (fun k => k = gd) w w' ∧
      Dsk w' (More X w w') gd { d with fs := D.add d.fs f } := by
  obtain ⟨cc, ⟨-, c1, -, -⟩, ⟨-, f1, -, -⟩, hz, hbox, hcc⟩ := hat.cells
  obtain ⟨la, lc, rfl⟩ := owned_slice hat.row
  have HBX := Lib.hid hbox
  have HAT := Lib.hid hat
  have HCC := Lib.hid hcc
  have HX := Lib.hid hX
  have HFO := Lib.hid hfo
  have HFB := Lib.hid hfb
  have HLN := Lib.hid hat.len.2
  have hfl : (fv.length : Int) ≤ 4096 := by have := h4.out; omega
  obtain ⟨iF, hiF, hiF0, hiF1, hiF2⟩ := info_parts infoFile
  clear hat hbox hcc hX hfo hfb
  have HW0 : Hid (Below (w.heap.size + 1) (w.alloc (.cells #[.string f.nm, .slice fa f.b.length fc, .int .i64 (f.safe : Int)] 147)) (w.alloc (.cells #[.string f.nm, .slice fa f.b.length fc, .int .i64 (f.safe : Int)] 147))) := Lib.hid (Below.refl _ _)
  go_enter Tryz.func100, Tryz.ntmps100
  go_wp2_with fail
  go_loopw [4] (fun i wr => ∃ k : Nat, i = .int .i64 (k : Int) ∧ k ≤ fv.length ∧ Hid (k ≤ D.place d.fs f.nm) ∧ Hid (Below (w.heap.size + 1) (w.alloc (.cells #[.string f.nm, .slice fa f.b.length fc, .int .i64 (f.safe : Int)] 147)) wr ∧ wr.heap.size = w.heap.size + 1)) (fun i _ => fv.length - (intOf i).toNat)
  case atStart => exact ⟨0, rfl, Nat.zero_le _, Lib.hid (Nat.zero_le _), Lib.hid ⟨HW0.out, by simp⟩⟩
  case round =>
    obtain ⟨k, rfl, hk, HP, HB⟩ := hrel
    have hb := HB.out.1
    have hbs := HB.out.2
    have hold : ∀ j, j < w.heap.size → wr.heap[j]? = w.heap[j]? := fun j hj => by
      rw [hb.block j (by omega), Below.heap_alloc _ _ _ hj]
    have hbox : wr.heap[w.heap.size]? = some (.cells #[.string f.nm, .slice fa f.b.length fc, .int .i64 (f.safe : Int)] 147) := (hb.block _ (by omega)).trans (heap_new _ _ _ rfl)
    obtain ⟨-, ⟨-, g1, -, -⟩, ⟨-, h1, -, -⟩, hz1, -⟩ := (HAT.out.same (w' := wr) (Y := X) (fun _ h => h) fun j hj => hold j (HX.out j hj)).cells
    have HATr : Hid _ := Lib.hid (HAT.out.same (w' := wr) (Y := X) (fun _ h => h) fun j hj => hold j (HX.out j hj))
    obtain ⟨b0, b1, b2, -, -, -, bz⟩ := three_of hbox
    have HST : Hid (∀ n, AddAt w (.cells #[.string f.nm, .slice fa f.b.length fc, .int .i64 (f.safe : Int)] 147) 0 [] (.slice none 0 0) (wr.drewN n)) := Lib.hid fun n =>
      ⟨hb.os, hb.tape, hb.output, by show _ ≤ wr.heap.size; omega, hold, hbox, World.ownsRow_nil _ _ _ _, fun j hj => by simp [Value.ownBlock] at hj⟩
    have HOLD := Lib.hid hold
    clear hb hold hbox
    by_cases hlt : k < fv.length
    · have hkk : (k : Int) < (fv.length : Int) := by omega
      obtain ⟨ga, c, hv, hXa, -, hgz, hnc, hcm, e0, -, -, -⟩ := HATr.out.file k hlt
      cases hv
      have hkd : k < d.fs.length := by have := HLN.out; omega
      have hgt := HAT.out.get k hlt hkd
      obtain ⟨nm, hnm⟩ : ∃ nm, nm = fv[k].1.nm := ⟨_, rfl⟩
      rw [← hnm] at e0
      have HNM : Hid (nm = d.fs[k].nm) := Lib.hid (by rw [hnm, hgt])
      clear hgt hnm
      by_cases hless : Op.bytesLess nm.toList f.nm.toList = true
      · have HN : Hid (k + 1 ≤ D.place d.fs f.nm) := Lib.hid (D.idx_next _ d.fs k hkd HP.out (by rw [← HNM.out, hless]; rfl))
        go_wp2_with fail
        go_quiet (fail)
        go_wp2_with fail
        go_roundw
        case rel => exact ⟨k + 1, by go_num, by omega, HN, Lib.hid ⟨⟨HB.out.1.os, HB.out.1.tape, HB.out.1.output, HB.out.1.size, HB.out.1.block⟩, HB.out.2⟩⟩
        case measure => simp [intOf]; omega
      · have hless : Op.bytesLess nm.toList f.nm.toList = false := by simpa using hless
        have HKP : Hid (k = D.place d.fs f.nm) := Lib.hid (D.idx_hit _ d.fs k hkd HP.out (by rw [← HNM.out, hless]; rfl)).symm
        have HY1 : Hid (∀ n, Yields (wr.drewN n) (.slice (some ⟨ga, 0, none⟩) k lc) k 3 (flCells (fv.take k))) := Lib.hid fun n => by
          have := (HATr.out.same (w' := wr.drewN n) (Y := X) (fun _ h => h) fun _ _ => rfl).yields rfl 0 k lc (by omega)
          simpa using this
        have hlc : (k : Int) ≤ (lc : Int) := by omega
        by_cases hcap : lc = k
        · exact absurd hcap (by omega)
        · have hcc1 : ¬ (lc : Int) = (k : Int) := by omega
          go_wp2_with fail
          go_quiet (fail)
          go_wp2_with (at_builtin; refine wpList_add_append rfl (.tmp 28) (.tmp 34) rfl rfl (HST.out _) rfl (HY1.out _) (by omega) ?_)
          intro v1 w1 hA1
          obtain ⟨a1, k1, rfl⟩ := owned_slice hA1.row
          obtain ⟨s0, s1, s2, -, -, -, sz⟩ := three_of hA1.bx
          have HA1 := Lib.hid hA1
          clear hA1
          go_wp2_with (at_builtin; refine wpList_add_append rfl (.tmp 36) (.tmp 38) rfl rfl (HA1.out.alloc _) rfl (yields_new (p := (f, .slice fa f.b.length fc)) rfl rfl) (by omega) ?_)
          intro v2 w2 hA2
          obtain ⟨a2, k2, rfl⟩ := owned_slice hA2.row
          obtain ⟨-, ⟨-, j1, -, -⟩, -, jz, -⟩ := (HAT.out.same (w' := w2) (Y := X) (fun _ h => h) fun j hj => hA2.old j (HX.out j hj)).cells
          have HY2 : Hid (Yields w2 (.slice (some ⟨ga, k * 3, none⟩) (fv.length - k) (lc - k)) (fv.length - k) 3 (flCells (fv.drop k))) := Lib.hid (by
            have := (HAT.out.same (w' := w2) (Y := X) (fun _ h => h) fun j hj => hA2.old j (HX.out j hj)).yields rfl k (fv.length - k) (lc - k) (by omega)
            rw [List.take_of_length_le (by simp)] at this
            exact this)
          have HA2 := Lib.hid hA2
          clear hA2
          go_wp2_with (at_builtin; refine wpList_add_append rfl (.tmp 41) (.tmp 47) rfl rfl HA2.out rfl HY2.out (by omega) ?_)
          intro v3 w3 hA3
          obtain ⟨a3, k3, rfl⟩ := owned_slice hA3.row
          obtain ⟨-, ⟨-, l1, -, -⟩, ⟨-, m1, -, -⟩, lz, -⟩ := (HAT.out.same (w' := w3) (Y := X) (fun _ h => h) fun j hj => hA3.old j (HX.out j hj)).cells
          have HA3 := Lib.hid hA3
          clear hA3
          go_wp2_with fail
          go_end0
          have hfin := add_done (v3 := _) (v := .slice fa f.b.length fc) (wF := _) HAT.out HX.out HCC.out HKP.out (by
            have hA := HA3.out
            rw [show fv.take k ++ (f, Value.slice fa f.b.length fc) :: fv.drop k = fv.take k ++ [(f, Value.slice fa f.b.length fc)] ++ fv.drop k from by simp, flCells_append, flCells_append]
            rw [show (fv.take k ++ [(f, Value.slice fa f.b.length fc)] ++ fv.drop k).length = k + 1 + (fv.length - k) from by simp; omega]
            simpa only [List.append_assoc] using hA) HFO.out HFB.out rfl HBX.out
          exact ⟨rfl, hfin.1, hfin.2⟩
    · have hkk : ¬ (k : Int) < (fv.length : Int) := by omega
      obtain rfl : k = fv.length := by omega
      have HKP : Hid (fv.length = D.place d.fs f.nm) := Lib.hid (by
        have := HP.out
        have h2 : D.place d.fs f.nm ≤ d.fs.length := List.findIdx_le_length
        have := HLN.out
        omega)
      clear hlt
      cases la with
      | none =>
        have h0 : fv.length = 0 := by
          rcases HAT.out.row.2 with ⟨_, h⟩ | ⟨g, cap, cur, h, _⟩
          · exact h
          · cases h
        have hlc0 : lc = 0 := by
          rcases HAT.out.row.2 with ⟨h, _⟩ | ⟨g, cap, cur, h, _⟩
          · simp only [Value.slice.injEq] at h; exact h.2.2
          · cases h
        subst hlc0
        have hfe : fv = [] := List.eq_nil_of_length_eq_zero h0
        subst hfe
        have HY1 : Hid (∀ n, Yields (wr.drewN n) (.slice none 0 0) 0 3 []) := Lib.hid fun n => yields_none _
        go_wp2_with fail
        go_quiet (fail)
        go_wp2_with (at_builtin; refine wpList_add_append rfl (.tmp 28) (.tmp 34) rfl rfl (HST.out _) rfl (HY1.out _) (by omega) ?_)
        intro v1 w1 hA1
        obtain ⟨a1, k1, rfl⟩ := owned_slice hA1.row
        obtain ⟨s0, s1, s2, -, -, -, sz⟩ := three_of hA1.bx
        have HA1 := Lib.hid hA1
        clear hA1
        go_wp2_with (at_builtin; refine wpList_add_append rfl (.tmp 36) (.tmp 38) rfl rfl (HA1.out.alloc _) rfl (yields_new (p := (f, .slice fa f.b.length fc)) rfl rfl) (by omega) ?_)
        intro v2 w2 hA2
        obtain ⟨a2, k2, rfl⟩ := owned_slice hA2.row
        obtain ⟨-, ⟨-, j1, -, -⟩, -, jz, -⟩ := (HAT.out.same (w' := w2) (Y := X) (fun _ h => h) fun j hj => hA2.old j (HX.out j hj)).cells
        have HY2 : Hid (Yields w2 (.slice none 0 0) 0 3 []) := Lib.hid (yields_none _)
        have HA2 := Lib.hid hA2
        clear hA2
        go_wp2_with (at_builtin; refine wpList_add_append rfl (.tmp 41) (.tmp 47) rfl rfl HA2.out rfl HY2.out (by omega) ?_)
        intro v3 w3 hA3
        obtain ⟨a3, k3, rfl⟩ := owned_slice hA3.row
        obtain ⟨-, ⟨-, l1, -, -⟩, ⟨-, m1, -, -⟩, lz, -⟩ := (HAT.out.same (w' := w3) (Y := X) (fun _ h => h) fun j hj => hA3.old j (HX.out j hj)).cells
        have HA3 := Lib.hid hA3
        clear hA3
        go_wp2_with fail
        go_end0
        have hfin := add_done (v3 := _) (v := .slice fa f.b.length fc) (wF := _) HAT.out HX.out HCC.out HKP.out (by
          have hA := HA3.out
          skip
          exact hA) HFO.out HFB.out rfl HBX.out
        exact ⟨rfl, hfin.1, hfin.2⟩
      | some la =>
        obtain ⟨ga, hga, hnl⟩ : ∃ ga, la = ⟨ga, 0, none⟩ ∧ fv.length ≤ lc := by
          rcases HAT.out.row.2 with ⟨h, _⟩ | ⟨g, cap, cur, h, _, _, hn, _⟩
          · cases h
          · cases h; exact ⟨g, rfl, hn⟩
        subst hga
        have HY1 : Hid (∀ n, Yields (wr.drewN n) (.slice (some ⟨ga, 0, none⟩) fv.length lc) fv.length 3 (flCells (fv.take fv.length))) := Lib.hid fun n => by
          have := (HATr.out.same (w' := wr.drewN n) (Y := X) (fun _ h => h) fun _ _ => rfl).yields rfl 0 fv.length lc (by omega)
          rw [Nat.zero_mul, List.drop_zero] at this
          exact this
        by_cases hcap : lc = fv.length
        · subst hcap
          go_wp2_with fail
          go_quiet (fail)
          go_wp2_with (at_builtin; refine wpList_add_append rfl (.tmp 28) (.tmp 34) rfl rfl (HST.out _) rfl (HY1.out _) (by omega) ?_)
          intro v1 w1 hA1
          obtain ⟨a1, k1, rfl⟩ := owned_slice hA1.row
          obtain ⟨s0, s1, s2, -, -, -, sz⟩ := three_of hA1.bx
          have HA1 := Lib.hid hA1
          clear hA1
          go_wp2_with (at_builtin; refine wpList_add_append rfl (.tmp 36) (.tmp 38) rfl rfl (HA1.out.alloc _) rfl (yields_new (p := (f, .slice fa f.b.length fc)) rfl rfl) (by omega) ?_)
          intro v2 w2 hA2
          obtain ⟨a2, k2, rfl⟩ := owned_slice hA2.row
          obtain ⟨-, ⟨-, j1, -, -⟩, -, jz, -⟩ := (HAT.out.same (w' := w2) (Y := X) (fun _ h => h) fun j hj => hA2.old j (HX.out j hj)).cells
          have HY2 : Hid (Yields w2 (.slice (some ⟨ga, 0, none⟩) 0 0) 0 3 []) := Lib.hid (yields_bare _ _ _)
          have HA2 := Lib.hid hA2
          clear hA2
          go_wp2_with (at_builtin; refine wpList_add_append rfl (.tmp 41) (.tmp 47) rfl rfl HA2.out rfl HY2.out (by omega) ?_)
          intro v3 w3 hA3
          obtain ⟨a3, k3, rfl⟩ := owned_slice hA3.row
          obtain ⟨-, ⟨-, l1, -, -⟩, ⟨-, m1, -, -⟩, lz, -⟩ := (HAT.out.same (w' := w3) (Y := X) (fun _ h => h) fun j hj => hA3.old j (HX.out j hj)).cells
          have HA3 := Lib.hid hA3
          clear hA3
          go_wp2_with fail
          go_end0
          have hfin := add_done (v3 := _) (v := .slice fa f.b.length fc) (wF := _) HAT.out HX.out HCC.out HKP.out (by
            have hA := HA3.out
            rw [show fv.drop fv.length = [] from List.drop_length, show fv.take fv.length = fv from List.take_length, show fv ++ (f, Value.slice fa f.b.length fc) :: [] = fv ++ [(f, Value.slice fa f.b.length fc)] from rfl, flCells_append, show (fv ++ [(f, Value.slice fa f.b.length fc)]).length = fv.length + 1 from by simp]
            simpa only [List.append_assoc] using hA) HFO.out HFB.out rfl HBX.out
          exact ⟨rfl, hfin.1, hfin.2⟩
        · have hcc1 : ¬ (lc : Int) = (fv.length : Int) := by omega
          go_wp2_with fail
          go_quiet (fail)
          go_wp2_with (at_builtin; refine wpList_add_append rfl (.tmp 28) (.tmp 34) rfl rfl (HST.out _) rfl (HY1.out _) (by omega) ?_)
          intro v1 w1 hA1
          obtain ⟨a1, k1, rfl⟩ := owned_slice hA1.row
          obtain ⟨s0, s1, s2, -, -, -, sz⟩ := three_of hA1.bx
          have HA1 := Lib.hid hA1
          clear hA1
          go_wp2_with (at_builtin; refine wpList_add_append rfl (.tmp 36) (.tmp 38) rfl rfl (HA1.out.alloc _) rfl (yields_new (p := (f, .slice fa f.b.length fc)) rfl rfl) (by omega) ?_)
          intro v2 w2 hA2
          obtain ⟨a2, k2, rfl⟩ := owned_slice hA2.row
          obtain ⟨-, ⟨-, j1, -, -⟩, -, jz, -⟩ := (HAT.out.same (w' := w2) (Y := X) (fun _ h => h) fun j hj => hA2.old j (HX.out j hj)).cells
          have HY2 : Hid (Yields w2 (.slice (some ⟨ga, fv.length * 3, none⟩) 0 (lc - fv.length)) 0 3 []) := Lib.hid (yields_bare _ _ _)
          have HA2 := Lib.hid hA2
          clear hA2
          go_wp2_with (at_builtin; refine wpList_add_append rfl (.tmp 41) (.tmp 47) rfl rfl HA2.out rfl HY2.out (by omega) ?_)
          intro v3 w3 hA3
          obtain ⟨a3, k3, rfl⟩ := owned_slice hA3.row
          obtain ⟨-, ⟨-, l1, -, -⟩, ⟨-, m1, -, -⟩, lz, -⟩ := (HAT.out.same (w' := w3) (Y := X) (fun _ h => h) fun j hj => hA3.old j (HX.out j hj)).cells
          have HA3 := Lib.hid hA3
          clear hA3
          go_wp2_with fail
          go_end0
          have hfin := add_done (v3 := _) (v := .slice fa f.b.length fc) (wF := _) HAT.out HX.out HCC.out HKP.out (by
            have hA := HA3.out
            rw [show fv.drop fv.length = [] from List.drop_length, show fv.take fv.length = fv from List.take_length, show fv ++ (f, Value.slice fa f.b.length fc) :: [] = fv ++ [(f, Value.slice fa f.b.length fc)] from rfl, flCells_append, show (fv ++ [(f, Value.slice fa f.b.length fc)]).length = fv.length + 1 from by simp]
            simpa only [List.append_assoc] using hA) HFO.out HFB.out rfl HBX.out
          exact ⟨rfl, hfin.1, hfin.2⟩
end Go.Proofs.YtbcpcopapbgcdaaGreatDoor.M

/- Part: DiskRef6. -/
namespace Go.Proofs.YtbcpcopapbgcdaaGreatDoor.M
open Go.RowKit
open D (Fl Dk)

theorem tick_fs (d : Dk) : d.tick.fs = d.fs := by unfold D.Dk.tick; split <;> rfl

theorem tick_room (d : Dk) : d.tick.room = d.room := by unfold D.Dk.tick; split <;> rfl

theorem tick_calls (d : Dk) : d.tick.calls ≤ d.calls := by
  unfold D.Dk.tick
  split
  · exact Nat.sub_le _ _
  · exact Nat.le_refl _

/-- What a call of the disk leaves. -/
def CallPost (w : World) (X : Nat → Prop) (gd : Nat) (r : Int × Dk) (e : Ending) (w' : World) : Prop :=
  e = .returned (.int .i64 r.1) ∧ Only X w w' ∧ Dsk w' (More X w w') gd r.2

theorem Dsk.up {w w' : World} {X : Nat → Prop} {gd : Nat} {d : Dk} (h : Dsk w' X gd d) : Dsk w' (More X w w') gd d := h.same (fun _ hk => .inl hk) fun _ _ => rfl

theorem findR_neg {fs : List Fl} {s : ByteArray} (h : D.isThere fs s = false) : D.findR fs s = -1 := by
  unfold D.isThere at h
  unfold D.findR
  rw [if_neg (by simpa using h)]

theorem findR_pos {fs : List Fl} {s : ByteArray} (h : D.isThere fs s = true) : D.findR fs s = (D.find fs s : Int) ∧ D.find fs s < fs.length := by
  unfold D.isThere at h
  unfold D.findR
  have h' : D.find fs s < fs.length := by simpa using h
  exact ⟨by rw [if_pos h'], h'⟩

theorem rename_32 {d : Dk} {a b : ByteArray} (h : d.stopped = true) : D.rename d a b = (32, d) := by unfold D.rename; rw [if_pos h]

theorem rename_30 {d : Dk} {a b : ByteArray} (h : d.stopped = false) (hn : D.isThere d.fs a = false ∨ D.okName b = false) : D.rename d a b = (30, d.tick) := by
  unfold D.rename
  rw [if_neg (by rw [h]; simp)]
  simp only [tick_fs]
  rw [if_pos hn]

theorem rename_0 {d : Dk} {a b : ByteArray} (h : d.stopped = false) (ha : D.isThere d.fs a = true) (hb : D.okName b = true) (hi : D.find d.fs a < d.fs.length) :
    D.rename d a b = (0, { d.tick with fs := D.add ((d.fs.eraseIdx (D.find d.fs a)).eraseIdx (D.find (d.fs.eraseIdx (D.find d.fs a)) b)) { d.fs[D.find d.fs a] with nm := b } }) := by
  unfold D.rename
  rw [if_neg (by rw [h]; simp)]
  simp only [tick_fs]
  rw [if_neg (by rw [ha, hb]; simp), List.getElem?_eq_getElem hi]

theorem stopped_tick {d : Dk} (hst : d.stopped = true) : d.tick = d := by
  unfold D.Dk.tick
  unfold D.Dk.stopped at hst
  simp only [Bool.and_eq_true, beq_iff_eq] at hst
  rw [if_neg (by simp [hst.2])]

set_option maxRecDepth 20000 in
set_option maxHeartbeats 3200000 in
theorem RefRename_any (d : Dk) (X : Nat → Prop) (gd : Nat) (a b : ByteArray) (w : World) (hd : DskIn w X gd d) (hf : Hid (Fine d)) (hb : b.size ≤ 9223372036854775807) :
    Calls Tryz.prog 82 #[.pointer (some ⟨gd, 0, none⟩), .string a, .string b] w (CallPost w X gd (D.rename d a b)) := by
  have HX := Lib.hid hd.2
  have HD := Lib.hid hd.1
  clear hd
  cases hst : d.stopped with
  | true =>
    have HR : Hid (D.rename d a b = (32, d)) := Lib.hid (rename_32 hst)
    have ht := stopped_tick hst
    rw [HR.out]
    have HT := Lib.hid ht
    have HST := Lib.hid hst
    clear hst ht
    go_enter Tryz.func82, Tryz.ntmps82
    go_wp2_with fail
    refine (RefStopped_any d X gd _ HD.out (Lib.hid hf.out.2.1)).mono ?_
    rintro e w1 ⟨rfl, ho, hd1, hs1⟩
    rw [HST.out]
    rw [HT.out] at hd1
    have HO := Lib.hid ho
    have HD1 := Lib.hid hd1
    clear ho hd1 hs1
    go_wp2_with fail
    go_ret
    exact ⟨rfl, HO.out, HD1.out.up⟩
  | false =>
    have HST := Lib.hid hst
    clear hst
    go_enter Tryz.func82, Tryz.ntmps82
    go_wp2_with fail
    refine (RefStopped_any d X gd _ HD.out (Lib.hid hf.out.2.1)).mono ?_
    rintro e w1 ⟨rfl, ho, hd1, hs1⟩
    rw [HST.out]
    have HO := Lib.hid ho
    have HD1 := Lib.hid hd1
    have HS1 := Lib.hid hs1
    clear ho hd1 hs1
    go_wp2_with fail
    refine (RefFind_any d.tick X gd a _ HD1.out).mono ?_
    rintro e w' ⟨rfl, rfl⟩
    rw [tick_fs]
    cases hta : D.isThere d.fs a with
    | false =>
      rw [findR_neg hta]
      have HE : Hid (D.rename d a b = (30, d.tick)) := Lib.hid (rename_30 HST.out (.inl hta))
      clear hta
      go_wp2_with fail
      go_ret
      exact ⟨by rw [HE.out]; rfl, HO.out, by rw [HE.out]; exact HD1.out.up⟩
    | true =>
      obtain ⟨h1, h2⟩ := findR_pos hta
      rw [h1]
      have HI := Lib.hid h2
      have HTA := Lib.hid hta
      have HFR := Lib.hid h1
      obtain ⟨i, hi⟩ : ∃ i, i = D.find d.fs a := ⟨_, rfl⟩
      rw [← hi] at HI HFR ⊢
      have HID := Lib.hid hi
      clear h1 h2 hta hi
      have t1 : decide ((i : Int) < 0) = false := by simp
      go_wp2_with fail
      refine (RefName_any b _ hb).mono ?_
      rintro e w' ⟨rfl, rfl⟩
      cases hnb : D.okName b with
      | false =>
        have HE : Hid (D.rename d a b = (30, d.tick)) := Lib.hid (rename_30 HST.out (.inr hnb))
        clear hnb
        go_wp2_with fail
        go_ret
        exact ⟨by rw [HE.out]; rfl, HO.out, by rw [HE.out]; exact HD1.out.up⟩
      | true =>
        have HNB := Lib.hid hnb
        clear hnb
        go_wp2_with fail
        refine (RefFind_any d.tick X gd a _ HD1.out).mono ?_
        rintro e w' ⟨rfl, rfl⟩
        rw [tick_fs, HFR.out]
        obtain ⟨vl, fv, hat⟩ := HD1.out
        have hil : i < fv.length := by have := hat.len.2; have := HI.out; rw [tick_fs] at *; omega
        have hX1 : ∀ k, X k → k < w1.heap.size := fun k hk => by rw [HS1.out]; exact HX.out k hk
        have HAT := Lib.hid hat
        have HL4 : Hid (fv.length ≤ 4096) := Lib.hid (by have := hat.len.2; have := hf.out.1; rw [tick_fs] at *; omega)
        have HX1 := Lib.hid hX1
        have HIL := Lib.hid hil
        clear hat hX1 hil
        go_wp2_with fail
        refine (RefTake_any d.tick X gd vl fv i _ HAT.out HX1.out HIL.out HL4).mono ?_
        rintro e w2 ⟨vl2, rfl, ho2, hat2, hfb, -⟩
        obtain ⟨va, vc, hvi, hvl⟩ := HAT.out.bytes i HIL.out
        have hgt := HAT.out.get i HIL.out (by rw [tick_fs]; exact HI.out)
        obtain ⟨f, hf0⟩ : ∃ f, fv[i]'(HIL.out) = (f, .slice va f.b.length vc) := ⟨(fv[i]'(HIL.out)).1, by rw [← hvi]⟩
        have HFI : Hid (f = d.fs[i]'HI.out) := Lib.hid (by rw [hf0] at hgt; simp only [tick_fs] at hgt; exact hgt)
        have HFV : Hid (w1.ownsRow 0 5 1 (.slice va f.b.length vc) f.b.length (f.b.map byteV)) := Lib.hid (by
          have := HAT.out.each (fv[i]'(HIL.out)) (List.getElem_mem _)
          rw [hf0] at this
          exact this)
        rw [hf0] at hfb ⊢
        have HF0 := Lib.hid hf0
        have HO2 := Lib.hid ho2
        have HAT2 := Lib.hid hat2
        have HFB := Lib.hid hfb
        clear hvi hgt hf0 ho2 hat2 hfb
        go_wp2_with fail
        obtain ⟨W2, hW2⟩ : ∃ W2 : World, W2 = w2.alloc (.cells #[.string b, .slice va f.b.length vc, .int .i64 (f.safe : Int)] 147) := ⟨_, rfl⟩
        rw [← hW2]
        have hX2 : ∀ k, More X w1 w2 k → k < w2.heap.size := fun k hk => by
          rcases hk with hk | hk
          · exact Nat.lt_of_lt_of_le (HX1.out k hk) HO2.out.size
          · exact hk.2
        have hold2 : ∀ k, k < w2.heap.size → W2.heap[k]? = w2.heap[k]? := fun k hk => by rw [hW2, Below.heap_alloc _ _ _ hk]
        have hb2 : W2.heap[w2.heap.size]? = some (.cells #[.string b, .slice va f.b.length vc, .int .i64 (f.safe : Int)] 147) := by rw [hW2]; exact heap_new _ _ _ rfl
        have hz2 : W2.heap.size = w2.heap.size + 1 := by rw [hW2]; simp
        have HAT3 : Hid (DkAt W2 (More X w1 w2) gd { d.tick with fs := d.tick.fs.eraseIdx i } vl2 (fv.eraseIdx i)) := Lib.hid (HAT2.out.same (fun _ h => h) fun k hk => hold2 k (hX2 k hk))
        have HFV2 : Hid (W2.ownsRow 0 5 1 (.slice va f.b.length vc) f.b.length (f.b.map byteV)) := Lib.hid (ownsRow_same HFV.out fun k hk => (hold2 k (Nat.lt_of_lt_of_le (HFV.out.lt k hk).2 HO2.out.size)).trans (HFB.out k hk).1)
        have HFX : Hid (∀ k, (Value.slice va f.b.length vc).ownBlock = some k → X k ∧ k ≠ gd ∧ k < w1.heap.size) := Lib.hid fun k hk => by
          have hm := mem_blocks_file (gd := gd) (vl := vl) (List.getElem_mem HIL.out) (p := fv[i]'(HIL.out)) (k := k) (by rw [HF0.out]; exact hk)
          refine ⟨HAT.out.foot k hm, fun e => ?_, (HFV.out.lt k hk).2⟩
          have := (HFB.out k hk).2
          rw [blocksOf, List.cons_append, List.mem_cons, not_or] at this
          exact this.1 e
        have HOA : Hid (Only X w W2) := Lib.hid (by
          rw [hW2]
          exact (HO.out.trans (HO2.out.mono fun k hk => .inl (hk ▸ HAT.out.own))).alloc _)
        have HZ2 := Lib.hid hz2
        have HB2 := Lib.hid hb2
        have HX2 := Lib.hid hX2
        have HOLD2 := Lib.hid hold2
        clear hW2 hX2 hold2 hb2 hz2
        refine (RefFind_any _ (More X w1 w2) gd b _ ⟨vl2, _, HAT3.out⟩).mono ?_
        rintro e w' ⟨rfl, rfl⟩
        have hefs : ({ d.tick with fs := d.tick.fs.eraseIdx i } : Dk).fs = d.fs.eraseIdx i := by simp only [tick_fs]
        rw [hefs]
        clear hefs
        obtain ⟨b0, b1, b2, -, -, -, bz⟩ := three_of HB2.out
        have hl4 : (fv.eraseIdx i).length ≤ 4096 := by have := HL4.out; rw [List.length_eraseIdx]; split <;> omega
        have HL4' := Lib.hid hl4
        clear hl4
        cases htb : D.isThere (d.fs.eraseIdx i) b with
        | false =>
          rw [findR_neg htb]
          have HTB := Lib.hid htb
          clear htb
          go_wp2_with fail
          refine (RefAdd_any _ (More X w1 w2) gd vl2 (fv.eraseIdx i) { f with nm := b } va vc _ HAT3.out (fun k hk => by have := HX2.out k hk; have := HZ2.out; omega) HL4' HFV2.out (fun k hk => ⟨.inl (HFX.out k hk).1, (HFB.out k hk).2⟩)).mono ?_
          rintro e w3 ⟨rfl, ho3, hd3⟩
          have HO3 := Lib.hid ho3
          have HD3 := Lib.hid hd3
          clear ho3 hd3
          go_wp2_with fail
          go_ret
          have HE := rename_0 HST.out HTA.out HNB.out (by have := HI.out; rw [HID.out] at this; exact this)
          have he : (D.rename d a b).2 = { d.tick with fs := D.add (d.fs.eraseIdx i) { f with nm := b } } := by
            rw [HE, HFI.out]
            simp only [← HID.out]
            have h1 : (d.fs.eraseIdx i).eraseIdx (D.find (d.fs.eraseIdx i) b) = d.fs.eraseIdx i := List.eraseIdx_of_length_le (by
              have := HTB.out
              unfold D.isThere at this
              simpa using this)
            rw [h1]
          refine ⟨by rw [HE]; rfl, HOA.out.trans (HO3.out.mono fun k hk => .inl (hk ▸ HAT.out.own)), ?_⟩
          rw [he]
          have := HD3.out
          simp only [tick_fs] at this ⊢
          refine this.same (fun k hk => ?_) fun _ _ => rfl
          have s1 := HO.out.size
          have s2 := HO2.out.size
          have s3 := HO3.out.size
          have s4 := HZ2.out
          rcases hk with (hk | hk) | hk
          · exact .inl hk
          · exact .inr ⟨by omega, by omega⟩
          · exact .inr ⟨by omega, by omega⟩
        | true =>
          obtain ⟨q1, q2⟩ := findR_pos htb
          rw [q1]
          obtain ⟨j, hj⟩ : ∃ j, j = D.find (d.fs.eraseIdx i) b := ⟨_, rfl⟩
          rw [← hj] at q2 ⊢
          have hjl : j < (fv.eraseIdx i).length := by have := HAT3.out.len.2; simp only [tick_fs] at this; omega
          have t2 : (0 : Int) ≤ (j : Int) := by omega
          have Q1 : Hid (D.findR (d.fs.eraseIdx i) b = (j : Int)) := Lib.hid (by rw [q1, hj])
          have Q2 := Lib.hid q2
          have HJ := Lib.hid hj
          have HJL := Lib.hid hjl
          clear q1 q2 hj htb hjl
          go_wp2_with fail
          refine (RefFind_any _ (More X w1 w2) gd b _ ⟨vl2, _, HAT3.out⟩).mono ?_
          rintro e w' ⟨rfl, rfl⟩
          have hefs : ({ d.tick with fs := d.tick.fs.eraseIdx i } : Dk).fs = d.fs.eraseIdx i := by simp only [tick_fs]
          rw [hefs, Q1.out]
          clear hefs
          go_wp2_with fail
          refine (RefTake_any _ (More X w1 w2) gd vl2 (fv.eraseIdx i) j _ HAT3.out (fun k hk => by have := HX2.out k hk; have := HZ2.out; omega) HJL.out HL4').mono ?_
          rintro e w3 ⟨vl3, rfl, ho3, hat3, -, hnw⟩
          obtain ⟨ea, ec, he, -⟩ := HAT3.out.bytes j HJL.out
          rw [he]
          have HNW := Lib.hid hnw
          clear he hnw
          have hb3 : w3.heap[w2.heap.size]? = some (.cells #[.string b, .slice va f.b.length vc, .int .i64 (f.safe : Int)] 147) := by
            rw [ho3.block _ (by have := HZ2.out; omega) (by
              intro e
              have h1 := HX1.out gd HAT.out.own
              have h2 := HO2.out.size
              omega)]
            exact HB2.out
          obtain ⟨y0, y1, y2, -, -, -, yz⟩ := three_of hb3
          have HFV3 : Hid (w3.ownsRow 0 5 1 (.slice va f.b.length vc) f.b.length (f.b.map byteV)) := Lib.hid (ownsRow_same HFV2.out fun k hk => ho3.block k (HFV2.out.lt k hk).2 (HFX.out k hk).2.1)
          have hnb : ∀ k, (Value.slice va f.b.length vc).ownBlock = some k → k ∉ blocksOf gd vl3 ((fv.eraseIdx i).eraseIdx j) := fun k hk hm => by
            have h0 := (HFB.out k hk).2
            have h1 := HFX.out k hk
            rw [blocksOf, List.cons_append, List.mem_cons, List.mem_append, List.mem_flatMap] at hm
            rcases hm with hm | hm | ⟨p, hp, hm⟩
            · exact h1.2.1 hm
            · have := HNW.out k (by simpa using hm)
              have h2 := HO2.out.size
              have := HZ2.out
              omega
            · exact h0 (mem_blocks_file (List.mem_of_mem_eraseIdx hp) (by simpa using hm))
          have HNB3 := Lib.hid hnb
          have HO3 := Lib.hid ho3
          have HAT4 := Lib.hid hat3
          clear ho3 hat3 hb3 hnb
          go_wp2_with fail
          refine (RefAdd_any _ (More (More X w1 w2) W2 w3) gd vl3 ((fv.eraseIdx i).eraseIdx j) { f with nm := b } va vc _ HAT4.out (fun k hk => by
            have h2 := HO3.out.size
            rcases hk with hk | hk
            · have := HX2.out k hk; have := HZ2.out; omega
            · exact hk.2) (Lib.hid (by have := HL4'.out; rw [List.length_eraseIdx]; split <;> omega)) HFV3.out (fun k hk => ⟨.inl (.inl (HFX.out k hk).1), HNB3.out k hk⟩)).mono ?_
          rintro e w4 ⟨rfl, ho4, hd4⟩
          have HO4 := Lib.hid ho4
          have HD4 := Lib.hid hd4
          clear ho4 hd4
          go_wp2_with fail
          go_ret
          have HE := rename_0 HST.out HTA.out HNB.out (by have := HI.out; rw [HID.out] at this; exact this)
          have he : (D.rename d a b).2 = { d.tick with fs := D.add ((d.fs.eraseIdx i).eraseIdx j) { f with nm := b } } := by
            rw [HE, HFI.out]
            simp only [← HID.out, ← HJ.out]
          have s1 := HO.out.size
          have s2 := HO2.out.size
          have s3 := HO3.out.size
          have s4 := HZ2.out
          have s5 := HO4.out.size
          have hg : ∀ k, k = gd → X k := fun k hk => hk ▸ HAT.out.own
          refine ⟨by rw [HE]; rfl, (HOA.out.trans (HO3.out.mono fun k hk => .inl (hg k hk))).trans (HO4.out.mono fun k hk => .inl (hg k hk)), ?_⟩
          rw [he]
          have := HD4.out
          simp only [tick_fs] at this ⊢
          refine this.same (fun k hk => ?_) fun _ _ => rfl
          rcases hk with ((hk | hk) | hk) | hk
          · exact .inl hk
          · exact .inr ⟨by omega, by omega⟩
          · exact .inr ⟨by omega, by omega⟩
          · exact .inr ⟨by omega, by omega⟩
end Go.Proofs.YtbcpcopapbgcdaaGreatDoor.M
