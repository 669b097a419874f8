/- Package members: the numbers of a list of values (idsOf). -/
import Derived.Test.YtdngfbljcmbniaaTM7
import Derived.Test.YtdngfbljcmbniaaTM24
import Derived.Deep.OwnRows
namespace Go.Proofs.Ytdngfbljcmbniaa.M
open Go.RowKit

/-- A row of ints, the first k of which are laid. -/
def frI (A : List Int) (k : Nat) : List Int := A.take k ++ List.replicate (A.length - k) 0

theorem frI_zero (A : List Int) : frI A 0 = List.replicate A.length 0 := by simp [frI]

theorem frI_all (A : List Int) : frI A A.length = A := by simp [frI]

theorem frI_len {A : List Int} {k : Nat} (hk : k ≤ A.length) : (frI A k).length = A.length := by simp [frI]; omega

theorem frI_next {A : List Int} {k : Nat} (hk : k < A.length) : (frI A k).take k ++ [A[k]] ++ (frI A k).drop (k + 1) = frI A (k + 1) := by
  have h1 : (frI A k).take k = A.take k := by
    unfold frI
    rw [List.take_append_of_le_length (by simp; omega), List.take_of_length_le (by simp; omega)]
  have h2 : (frI A k).drop (k + 1) = List.replicate (A.length - (k + 1)) 0 := by
    unfold frI
    rw [List.drop_append, List.drop_of_length_le (by simp; omega), List.nil_append, List.drop_replicate]
    congr 1
    simp
    omega
  rw [h1, h2, ← take_snoc hk]
  rfl

theorem put_int {w : World} {g k : Nat} {A : List Int} (hk : k < A.length) (h : w.heap[g]? = some (.cells ((frI A k).map intV).toArray 3)) :
    (w.setCell ⟨g, k, none⟩ (intV A[k])).heap[g]? = some (.cells ((frI A (k + 1)).map intV).toArray 3) := by
  have hl := frI_len (Nat.le_of_lt hk)
  obtain ⟨cur', h1, -, h2⟩ := heap_setCells [intV A[k]] k w _ h (by simp; omega)
  have : cur' = ((frI A (k + 1)).map intV).toArray := by
    apply Array.toList_inj.1
    rw [h2, ← frI_next hk]
    simp [List.map_take, List.map_drop]
  rw [← this]
  exact h1

theorem make_ints (n : Nat) (hn : n ≤ 1099511627776) (W : World) :
    (Instr.makeSlice 23 (.int .i64 (n : Int)) (.int .i64 (n : Int))).run Try.prog W = .ok (.slice (some ⟨W.heap.size, 0, none⟩) n n) (W.alloc (.cells ((List.replicate n (0 : Int)).map intV).toArray 3)) := by
  have hz : madeCells #[Value.int .i64 0] n = ((List.replicate n (0 : Int)).map intV).toArray := by
    apply Array.toList_inj.1
    rw [toList_madeCells_one]
    simp [intV]
  rw [← hz]
  exact run_make_row' 23 3 (.int .i64 0) 8 Try.underlying23 infoInt rfl .i64 .i64 n (by omega) (by omega) W

theorem RepI.of_row {w : World} {l : List Int} {g n : Nat} (h : w.heap[g]? = some (.cells (l.map intV).toArray 3)) (hn : n = l.length) (hl : l.length ≤ 9223372036854775807) (hr : In64 l) :
    RepI w (fun b => b = g) l (.slice (some ⟨g, 0, none⟩) n n) := by
  subst hn
  refine .inr ⟨g, 0, l.length, rfl, rfl, Nat.le_refl _, hl, fun i hi => ⟨?_, hr _ (List.getElem_mem hi)⟩⟩
  rw [cell_of_row _ g (0 + i) _ _ _ h]
  simp [hi, intV]

/-- A number as an int. -/
def asInt (x : V) : Int := IntKind.i64.wrap (x.n : Int)

set_option maxRecDepth 20000 in
set_option maxHeartbeats 1600000 in
theorem idsOf_any (n0 : Nat) (b0 : List UInt8) (l : List V) (F : Nat → Prop) (v : Value) (w : World) (hv : RepV w F (.mk n0 b0 l) v) (hF : ∀ k, F k → k < w.heap.size) (hl : l.length ≤ 1099511627776) :
    Calls Try.prog 17 #[v] w fun e w' => ∃ u, e = .returned u ∧ Below w.heap.size w w' ∧ RepI w' (fun k => w.heap.size ≤ k ∧ k < w'.heap.size) (l.map asInt) u := by
  obtain ⟨vb, vl, rfl, -, -, hvl⟩ := RepV_mk.1 hv
  obtain ⟨va, vk, hvv, -⟩ := hvl.slice
  obtain ⟨n, hn⟩ : ∃ n, n = l.length := ⟨_, rfl⟩
  rw [← hn] at hvv hl
  subst hvv
  obtain ⟨A, hA⟩ : ∃ A, A = l.map asInt := ⟨_, rfl⟩
  have hAn : A.length = n := by rw [hA, hn]; simp
  rw [← hA]
  obtain ⟨gv, hgv⟩ : ∃ gv, gv = w.heap.size := ⟨_, rfl⟩
  obtain ⟨W1, hW1⟩ : ∃ W1, W1 = w.alloc (.cells #[.int .u64 (n0 : Int), vb, .slice va n vk] 45) := ⟨_, rfl⟩
  have HB1 : Hid (Below w.heap.size w W1) := Lib.hid (by rw [hW1]; exact below_alloc _ _)
  have HX1 : Hid (W1.heap[gv]? = some (.cells #[.int .u64 (n0 : Int), vb, .slice va n vk] 45)) := Lib.hid (by rw [hW1, hgv]; exact heap_alloc_new _ _)
  obtain ⟨c0, c1, c2, -, -, -, cz⟩ := block3 HX1.out
  obtain ⟨W2, hW2⟩ : ∃ W2, W2 = W1.alloc (.cells ((List.replicate n (0 : Int)).map intV).toArray 3) := ⟨_, rfl⟩
  obtain ⟨g, hg⟩ : ∃ g, g = W1.heap.size := ⟨_, rfl⟩
  have hmk : (Instr.makeSlice 23 (.int .i64 (n : Int)) (.int .i64 (n : Int))).run Try.prog W1 = .ok (.slice (some ⟨g, 0, none⟩) n n) W2 := by rw [make_ints n hl, hW2, hg]
  have HB2 : Hid (Below w.heap.size w W2 ∧ w.heap.size ≤ g ∧ W2.heap[g]? = some (.cells ((frI A 0).map intV).toArray 3)) := Lib.hid ⟨HB1.out.trans (by rw [hW2]; exact (below_alloc W1 _).mono HB1.out.size), by rw [hg]; exact HB1.out.size, by rw [hW2, hg, frI_zero, hAn]; exact heap_alloc_new _ _⟩
  have HX2 : Hid (W2.heap[gv]? = some (.cells #[.int .u64 (n0 : Int), vb, .slice va n vk] 45)) := Lib.hid (by rw [hW2]; exact old_alloc HX1.out)
  have HGG : Hid (gv < g ∧ W1.heap.size = g ∧ gv = w.heap.size) := Lib.hid ⟨by have := lt_of_heap HX1.out; omega, hg.symm, hgv⟩
  have HV := Lib.hid hvl
  have HF := Lib.hid hF
  have HA := Lib.hid hA
  have HN := Lib.hid hn
  have HAN := Lib.hid hAn
  have HGV := Lib.hid hgv
  have HW1 := Lib.hid hW1
  clear hv hvl hF hA hn hAn hW1 hW2 hg hgv
  go_enter Try.func17, Try.ntmps17
  go_wp2_with fail
  rw [← HGV.out, ← HW1.out, hmk]
  obtain ⟨f0, f1, f2, -, -, -, fz⟩ := block3 HX2.out
  go_wp2_with fail
  clear hmk c0 c1 c2 cz f0 f1 f2 fz
  go_loopg [13] n (fun gk i wr => ∃ k : Nat, k + gk = n ∧ i = .int .i64 (k : Int) ∧ Hid (Below w.heap.size w wr ∧ wr.heap[g]? = some (.cells ((frI A k).map intV).toArray 3)))
  case atStart => exact ⟨0, by omega, rfl, Lib.hid ⟨HB2.out.1, HB2.out.2.2⟩⟩
  case round =>
    obtain ⟨k, hk, rfl, HR⟩ := hrel
    by_cases hlt : k < n
    · have hkk : (k : Int) < (n : Int) := by omega
      have hl1 : k < l.length := by rw [← HN.out]; exact hlt
      rcases HV.out with ⟨h0, -⟩ | ⟨b, off, c, hs, hb, h1, h2, hvs⟩
      · rw [h0] at hl1; simp at hl1
      simp only [Value.slice.injEq] at hs
      obtain ⟨hs1, -, hs2⟩ := hs
      obtain ⟨u, ⟨x, y, z, rfl, e0, e1, e2⟩, hru⟩ := RepVs.get l hvs k hl1
      obtain ⟨m, bb, ll, hlk⟩ : ∃ m bb ll, l[k] = .mk m bb ll := by cases l[k]; exact ⟨_, _, _, rfl⟩
      rw [hlk] at hru
      obtain ⟨vb', vl', hagg, hm, hrb, hrl⟩ := RepV_mk.1 hru
      obtain ⟨ya, yk, hyy, -⟩ := hrb.slice
      obtain ⟨za, zk, hzz, -⟩ := hrl.slice
      obtain ⟨yn, hyn⟩ : ∃ yn, yn = bb.length := ⟨_, rfl⟩
      obtain ⟨zn, hzn⟩ : ∃ zn, zn = ll.length := ⟨_, rfl⟩
      rw [← hyn] at hyy
      rw [← hzn] at hzz
      simp only [Value.agg.injEq, Array.mk.injEq, List.cons.injEq, and_true] at hagg
      obtain ⟨hx, hy, hz⟩ := hagg
      subst hx hy hz hs1 hs2 hyy hzz
      have hak : A[k]'(by rw [HAN.out]; exact hlt) = IntKind.i64.wrap (m : Int) := by
        simp only [HA.out, List.getElem_map]
        rw [hlk]; rfl
      have hbz := HF.out b hb
      have e0' := (HR.out.1.cell (p := ⟨b, off + k * 3, none⟩) hbz).trans e0
      have e1' := (HR.out.1.cell (p := ⟨b, off + k * 3 + 1, none⟩) hbz).trans e1
      have e2' := (HR.out.1.cell (p := ⟨b, off + k * 3 + 2, none⟩) hbz).trans e2
      have hbz' : b < wr.heap.size := Nat.lt_of_lt_of_le hbz HR.out.1.size
      have hgz := lt_of_heap HR.out.2
      clear e0 e1 e2 hru hvs hlk hb h1 h2 hrb hrl hyn hzn
      obtain ⟨ov, hov⟩ : ∃ ov : Int, (frI A k)[k]? = some ov := ⟨_, List.getElem?_eq_getElem (by rw [frI_len (by rw [HAN.out]; omega), HAN.out]; exact hlt)⟩
      obtain ⟨o9, ho9⟩ : ∃ o9, o9 = (Obj.cells #[.int .u64 (m : Int), .slice ya yn yk, .slice za zn zk] 45) := ⟨_, rfl⟩
      have hst : (wr.alloc o9).heap[g]? = some (.cells ((frI A k).map intV).toArray 3) := old_alloc HR.out.2
      have hfc : (wr.alloc o9).cell? ⟨g, k, none⟩ = some (.int .i64 ov) := by
        rw [cell_of_row _ _ _ _ _ _ hst]
        simp only [List.getElem?_toArray, List.getElem?_map, hov]
        rfl
      have hff := frozen_of_row _ g k _ _ hst
      have hgz9 : g < (wr.alloc o9).heap.size := lt_of_heap hst
      have HST : Hid ((wr.alloc o9).heap[g]? = some (.cells ((frI A k).map intV).toArray 3)) := Lib.hid hst
      have HAK := Lib.hid hak
      clear hov hst hak
      subst ho9
      go_wp2_with fail
      go_roundg (gk - 1)
      case measure => omega
      case rel => exact ⟨k + 1, by omega, by go_num, by
        have hlt' : k < A.length := by rw [HAN.out]; exact hlt
        have h9 := put_int hlt' HR.out.2
        rw [HAK.out, show IntKind.i64.wrap (m : Int) = wrap64 (m : Int) from by rw [IntKind.wrap_i64]; simp only [wrap64]] at h9
        exact Lib.hid ⟨(HR.out.1.setCell HB2.out.2.1 _).alloc (by rw [World.size_setCell]; exact HR.out.1.size) _, old_alloc h9⟩⟩
    · obtain rfl : k = n := by omega
      have hkk : ¬ ((k : Nat) : Int) < (k : Int) := by omega
      go_wp2_with fail
      go_ret
      refine ⟨_, rfl, HR.out.1, ?_⟩
      have hfin := HR.out.2
      rw [← HAN.out, frI_all] at hfin
      have hin : In64 A := fun x hx => by
        rw [HA.out] at hx
        obtain ⟨y, -, rfl⟩ := List.mem_map.1 hx
        unfold asInt
        rw [IntKind.wrap_i64]
        omega
      exact (RepI.of_row hfin (by rw [HAN.out]) (by rw [HAN.out]; omega) hin).same (fun b hb => by subst hb; exact ⟨HB2.out.2.1, lt_of_heap HR.out.2⟩) fun _ _ => rfl
end Go.Proofs.Ytdngfbljcmbniaa.M
