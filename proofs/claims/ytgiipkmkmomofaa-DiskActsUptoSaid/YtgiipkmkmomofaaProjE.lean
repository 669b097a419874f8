/- The program's disk: bytes laid behind a file's; a file dropped. -/
import Derived.Test.YtgiipkmkmomofaaProjD
import Derived.Maps.OwnSet
namespace Go.Proofs.Ytgiipkmkmomofaa.M
open Go.RowKit Go.Maps
open D (Fl Dk)

/-- The state at the head of the loop that lays bytes behind a file's. -/
def PutAt (w : World) (b : Nat) (v0 : Value) (f : Fl) (bs : List (List UInt8)) (k : Nat) (wr : World) : Prop :=
  k ≤ bs.length ∧ Only (fun j => j = b ∨ v0.ownBlock = some j) w wr ∧ ∃ v, FileAt wr b v { f with b := f.b ++ (bs.take k).flatten } ∧ (v.ownBlock = v0.ownBlock ∨ ∃ g, v.ownBlock = some g ∧ w.heap.size ≤ g)

set_option maxRecDepth 20000 in
set_option maxHeartbeats 1600000 in
theorem Lay_any (b : Nat) (v : Value) (f : Fl) (bs : List (List UInt8)) (F : Nat → Prop) (vb : Value) (w : World) (h : FileAt w b v f) (hv : RepBl w F bs vb) (hF : ∀ k, F k → k < w.heap.size ∧ k ≠ b ∧ v.ownBlock ≠ some k) (hu : f.b.length + bs.flatten.length ≤ 140737488355328) :
    Calls Try.prog 43 #[.pointer (some ⟨b, 0, none⟩), vb] w fun e w' => e = .returned (.tuple #[]) ∧ PutAt w b v f bs bs.length w' := by
  obtain ⟨ib, hib, hib0, hib1, hib2⟩ := info_parts infoByte
  obtain ⟨na, nc, rfl, hnl⟩ := hv.slice
  have H0 : Hid (PutAt w b v f bs 0 w) := Lib.hid ⟨Nat.zero_le _, Only.refl _ _, v, by simpa using h, .inl rfl⟩
  have hbz := h.cells.2.2.2.2.1
  have hvz : ∀ k, v.ownBlock = some k → k < w.heap.size := fun k hk => (h.2.lt k hk).2
  have HVZ := Lib.hid hvz
  have HV := Lib.hid hv
  have HF := Lib.hid hF
  have HU := Lib.hid hu
  clear hv hF h hu hvz
  go_enter Try.func43, Try.ntmps43
  go_wp2_with fail
  go_loopw [5, 8] (fun _ i wr => ∃ k : Nat, i = .int .i64 (k : Int) ∧ PutAt w b v f bs k wr) (fun _ i _ => bs.length - (intOf i).toNat)
  case atStart => exact ⟨0, rfl, H0.out⟩
  case round =>
    obtain ⟨k, rfl, hat⟩ := hrel
    obtain ⟨hk, ho, v1, hf1, hn1⟩ := hat
    by_cases hlt : k < bs.length
    · have hkk : (k : Int) < (bs.length : Int) := by omega
      have hv2 : RepBl wr F bs (.slice na bs.length nc) := HV.out.same (fun _ h => h) fun j hj => ho.block j (HF.out j hj).1 fun hh => by
        rcases hh with hh | hh
        · exact (HF.out j hj).2.1 hh
        · exact (HF.out j hj).2.2 hh
      obtain ⟨b1, off, u, rfl, hFb, hc, hu⟩ := hv2.elem k hlt
      have hbz1 : b1 < wr.heap.size := Nat.lt_of_lt_of_le (HF.out b1 hFb).1 ho.size
      obtain ⟨c0, -, f0, -, hz, va, vc, hv1, hlen1, hlen2⟩ := hf1.cells
      obtain ⟨ua, uc, hue, hul⟩ := hu.slice
      obtain ⟨l, hl⟩ : ∃ l, l = f.b ++ (bs.take k).flatten := ⟨_, rfl⟩
      obtain ⟨y, hy⟩ : ∃ y, y = bs[k] := ⟨_, rfl⟩
      rw [← hy] at hu hue hul
      rw [← hl] at hf1
      simp only [← hl] at hv1 hlen1
      have hbound : l.length + y.length ≤ 140737488355328 := by
        have h1 := HU.out
        have h2 : bs.flatten = (bs.take (k + 1)).flatten ++ (bs.drop (k + 1)).flatten := by rw [← List.flatten_append, List.take_append_drop]
        have h3 : (bs.take (k + 1)).flatten = (bs.take k).flatten ++ y := by rw [List.take_succ_eq_append_getElem hlt, List.flatten_append, hy]; simp
        rw [h2, h3, List.length_append, List.length_append] at h1
        rw [hl, List.length_append]
        omega
      have hrow := hf1.2
      have HNE := Lib.hid hf1.ne
      have HSTEP : Hid (∀ (v2 : Value) (w2 : World), AppLeft wr 0 5 1 v1 l.length y.length (l.map byteV) (y.map byteV) v2 w2 → w2.frozen? ⟨b, 0, none⟩ = false ∧ b < w2.heap.size ∧ w2.cell? ⟨b, 0, none⟩ = some v1 ∧ PutAt w b v f bs (k + 1) (w2.setCell ⟨b, 0, none⟩ v2)) := Lib.hid fun v2 w2 happ => by
        obtain ⟨a1, a2, a3⟩ := happ
        have hbw := a2.block b hz (fun e => HNE.out e.symm)
        have hb2 : w2.heap[b]? = some (.cells #[v1, .int .i64 (f.safe : Int)] 73) := hbw.trans hf1.1
        refine ⟨frozen_of_row w2 b 0 _ _ hb2, lt_of_heap hb2, cell_of_row w2 b 0 _ _ _ hb2, by omega, ?_, v2, ⟨?_, ?_⟩, ?_⟩
        · refine (show Only (fun j => j = b ∨ v.ownBlock = some j) w w2 from ⟨a2.os.trans ho.os, a2.tape.trans ho.tape, a2.output.trans ho.output, Nat.le_trans ho.size a2.size, fun j hj hne => ?_⟩).set (.inl (.inl rfl)) _
          rw [a2.block j (Nat.lt_of_lt_of_le hj ho.size) fun e => ?_]
          · exact ho.block j hj hne
          · rcases hn1 with h1 | ⟨g, h1, h2⟩
            · exact hne (.inr (by rw [← h1]; exact e.symm))
            · rw [h1] at e; cases e; omega
        · have h1 := heap_setCell_same _ _ 0 _ _ v2 hb2
          rw [h1]; simp
        · have e1 : f.b ++ (bs.take (k + 1)).flatten = l ++ y := by
            rw [List.take_succ_eq_append_getElem hlt, List.flatten_append, hl, hy]; simp
          rw [show ({ f with b := f.b ++ (bs.take (k + 1)).flatten } : Fl).b = l ++ y from e1, List.length_append, List.map_append]
          refine ownsRow_same a1 fun j hj => Below.heap_setCell _ _ _ _ ?_
          show j ≠ b
          intro e
          subst e
          rcases a3 with h3 | h3
          · exact HNE.out (h3 ▸ hj)
          · rw [h3] at hj; cases hj; omega
        · rcases a3 with h3 | h3
          · rw [h3]; exact hn1
          · exact .inr ⟨_, h3, ho.size⟩
      have HY := Lib.hid hu.yields
      have HROW := Lib.hid hrow
      obtain ⟨len, hlen⟩ : ∃ len, len = l.length := ⟨_, rfl⟩
      obtain ⟨x, hx⟩ : ∃ x, x = y.length := ⟨_, rfl⟩
      subst hue hv1
      rw [← hlen] at HROW HSTEP c0 hbound HNE
      rw [← hx] at HY HSTEP hc hbound
      clear hrow hf1 hn1 hu hv2 hul hl hy ho hlen1 hlen2 hlen hx
      go_wp2_with (at_builtin; refine wpList_append_any _ rfl (.tmp 16) (.tmp 17) 41 rfl 0 5 ib (.int .u8 0) 1 1 Try.underlying41 hib hib0 hib1 hib2 rfl (by decide) _ len _ rfl HROW.out _ rfl x _ HY.out (by unfold maxLen; omega) (by omega) (Nat.zero_le _) ?_)
      intro v2 w2 happ
      obtain ⟨g1, g2, g3, g4⟩ := HSTEP.out v2 w2 happ
      obtain ⟨pa, pc, rfl⟩ := owned_slice happ.1
      have HN := Lib.hid g4
      clear happ g4
      go_wp2_with fail
      go_roundw
      case rel => exact ⟨k + 1, by go_num, HN.out⟩
      case measure => simp [intOf]; omega
    · have hkk : ¬ (k : Int) < (bs.length : Int) := by omega
      obtain rfl : k = bs.length := by omega
      have HD : Hid (PutAt w b v f bs bs.length wr) := Lib.hid ⟨hk, ho, v1, hf1, hn1⟩
      clear ho hf1 hn1
      go_wp2_with fail
      go_end0
      exact ⟨rfl, HD.out⟩

set_option maxRecDepth 20000 in
set_option maxHeartbeats 1600000 in
theorem Drop_any (d : Dk) (X : Nat → Prop) (gd gm : Nat) (fr : Int) (M : DataW Nat) (E : ByteArray → Nat × Value) (s : ByteArray) (w : World) (hat : PDAt w X gd d fr gm M E) (hr : D.Rising d.fs) (hs : s.size ≤ 9223372036854775807) (h0 : 0 ≤ fr) (hsum : fr + (D.used d.fs : Int) ≤ 9223372036854775807) :
    Calls Try.prog 47 #[.pointer (some ⟨gd, 0, none⟩), .string s] w fun e w' => e = .returned (.tuple #[]) ∧ Only X w w' ∧ w'.heap.size = w.heap.size ∧ (∀ k, k ≠ gd → k ≠ gm → w'.heap[k]? = w.heap[k]?) ∧
      ∃ M', PDAt w' X gd { d with fs := d.fs.eraseIdx (D.find d.fs s) } (fr + ((bytesOf d.fs s).length : Int)) gm M' E := by
  obtain ⟨⟨c0, -, c2⟩, ⟨f0, -, -⟩, hz⟩ := hat.cells
  have hl := hat.look hs (w' := w) rfl
  cases ht : D.isThere d.fs s with
  | false =>
    have HN : Hid (∃ M', PDAt w X gd { d with fs := d.fs.eraseIdx (D.find d.fs s) } (fr + ((bytesOf d.fs s).length : Int)) gm M' E) := Lib.hid ⟨M, by
      have e : bytesOf d.fs s = [] := by unfold bytesOf; rw [find_none ht]
      rw [e, D.erase_beyond ht]
      simpa using hat⟩
    unfold ptrOf at hl
    rw [ht] at hl
    clear hat ht
    go_enter Try.func47, Try.ntmps47
    go_wp2_with fail
    go_end0
    exact ⟨rfl, Only.refl _ _, rfl, fun _ _ _ => rfl, HN.out⟩
  | true =>
    obtain ⟨f, hf, rfl⟩ := D.isThere_mem.1 ht
    have hbf : bytesOf d.fs f.nm = f.b := by unfold bytesOf; rw [find_some hr hf]
    have hub := D.used_mem hf
    unfold ptrOf at hl
    rw [ht] at hl
    have hfa := hat.each f hf
    obtain ⟨e0, -, -, -, ez, va, vc, hv, hvl, hvc⟩ := hfa.cells
    rw [hv] at e0
    obtain ⟨b, hb⟩ : ∃ b, b = (E f.nm).1 := ⟨_, rfl⟩
    obtain ⟨n, hn⟩ : ∃ n, n = f.b.length := ⟨_, rfl⟩
    have hbk : b ≠ gd := by rw [hb]; exact (hat.kinds.2.1 f hf).1
    rw [← hb] at hl e0 ez
    rw [← hn] at e0
    have hsum2 : fr + (n : Int) ≤ 9223372036854775807 := by omega
    have hsum3 : 0 ≤ fr + (n : Int) := by omega
    have HB : Hid (bytesOf d.fs f.nm = f.b ∧ n = f.b.length) := Lib.hid ⟨hbf, hn⟩
    have HAT := Lib.hid hat
    have HR := Lib.hid hr
    have HT := Lib.hid ht
    have HGM : Hid (gm ≠ gd) := Lib.hid hat.kinds.1
    have hlk : ∀ w' : World, w'.heap[gm]? = w.heap[gm]? → (Instr.lookup 58 (.map (some gm)) (.string f.nm) false).run Try.prog w' = .ok (ptrOf d E f.nm) w' := fun w' hw => hat.look hs hw
    have HKEY := Lib.hid (key_of hs)
    clear hat ht hfa hf hv hbf hub hr hb hn hlk hs hvl hvc hsum
    go_enter Try.func47, Try.ntmps47
    go_wp2_with fail
    go_still_tail 12, (by kernel_rfl)
    go_wp2_with (at_delete; refine wpList_delete_own _ rfl (.tmp 28) (.tmp 29) 58 9 rfl 70 law9 Try.underlying58 ptrElem gm _ M rfl (ownsMap_same HAT.out.map (Below.heap_setCell _ _ _ _ HGM.out)) (.string f.nm) _ rfl HKEY.out ?_)
    intro w1 hown1 hturn1
    have HW := Lib.hid hown1
    have HT1 := Lib.hid hturn1
    clear hown1 hturn1
    go_wp2_with fail
    go_end0
    have hg := HT1.out.grown
    have hb2 := heap_setCell_same _ _ 0 _ _ (.int .i64 (fr + (n : Int))) HAT.out.box
    have hsz : w1.heap.size = w.heap.size := by
      obtain ⟨es, c, es', c', h1, h2⟩ := HT1.out
      rw [h2]; simp [Go.ChangeMaps.setBlock]
    have hoth : ∀ k, k ≠ gd → k ≠ gm → w1.heap[k]? = w.heap[k]? := fun k k1 k2 => by
      rcases Nat.lt_or_ge k w.heap.size with h1 | h1
      · have h2 := hg.block k (by simpa using h1) (by simpa using k2)
        exact h2.trans (Below.heap_setCell w ⟨gd, 0, none⟩ _ k (by simpa using k1))
      · rw [Array.getElem?_eq_none (by omega), Array.getElem?_eq_none (by omega)]
    have hgd1 : w1.heap[gd]? = some (.cells #[.int .i64 (fr + (n : Int)), .int .i64 (restOf d), .map (some gm)] 60) := by
      have h2 := hg.block gd (by simpa using hz) (by simpa using HGM.out.symm)
      exact h2.trans (hb2.trans (by simp))
    refine ⟨rfl, ⟨hg.os, hg.tape, hg.output, by omega, fun k _ hk => ?_⟩, hsz, hoth, M.del (.string f.nm.data.toList), ?_⟩
    · exact hoth k (fun e => hk (e ▸ HAT.out.foot.1)) fun e => hk (e ▸ HAT.out.foot.2.1)
    · rw [HB.out.1, ← HB.out.2]
      exact HAT.out.dropped HR.out HT.out rfl HW.out hgd1 hoth
end Go.Proofs.Ytgiipkmkmomofaa.M
