/- The library's Values, AppendSeq, Collect, Sorted over a slice of ints. Package members: majorities. -/
import Derived.Test.YtdngfbljcmbniaaTM16
import Derived.Test.YtdngfbljcmbniaaTM18
import Derived.Test.YtdngfbljcmbniaaTM19
import Derived.Sort.QuietIn
/- Part: MmS. -/
namespace Go.Proofs.Ytdngfbljcmbniaa.M
open Go.RowKit Go.Shelf Go.Maps

attribute [local go_sem] Oper.semAt_some

set_option maxRecDepth 100000 in
set_option maxHeartbeats 2000000 in
theorem vals_in (l z : Nat) (va : Option Addr) (n cap : Nat) (zs : List Int) (hn : n = zs.length) (hmax : n ≤ 9223372036854775807) (F : Nat → Prop) (J Jx : Nat → World → Prop)
    (hJ : ∀ k W, k ≤ n → J k W → W.cell? ⟨z, 0, none⟩ = some (.slice va n cap) ∧ RepI W F zs (.slice va n cap))
    (hY : ∀ k W, k < n → J k W → YieldAt Fence.wide (2 - 1) Try.prog l #[.int .i64 (zs.getD k 0)] W fun e W' => (e = .returned (.bool true) ∧ J (k + 1) W') ∨ (e = .returned (.bool false) ∧ Jx k W'))
    (W : World) (h0 : J 0 W) :
    CallsIn Fence.wide 2 Try.prog 48 #[.func (.yield l) #[] #[], .pointer (some ⟨z, 0, none⟩)] W fun e W' => (∃ v, e = .returned v) ∧ (J n W' ∨ ∃ k, Jx k W') := by
  have HJ := Lib.hid hJ
  have HN := Lib.hid hn
  obtain ⟨c0, -⟩ := hJ 0 W (Nat.zero_le _) h0
  clear hJ hn
  refine callsIn_of_wp Try.func48 rfl trivial ?_ rfl
  simp only [Try.ntmps48, List.size_toArray, List.length_cons, List.length_nil, Nat.reduceAdd, Nat.reduceSub, Array.replicate_succ, Array.replicate_zero, List.push_toArray, List.append_toArray, List.nil_append, List.cons_append]
  gi_wp2
  gi_loopw [7] (fun i wr => ∃ k : Nat, k ≤ n ∧ i = .int .i64 (k : Int) ∧ J k wr) (fun i _ => n - (intOf i).toNat)
  case atStart => exact ⟨0, Nat.zero_le _, rfl, h0⟩
  case round =>
    obtain ⟨k, hk, rfl, hJs⟩ := hrel
    obtain ⟨-, hr⟩ := HJ.out k wr hk hJs
    by_cases hlt : k < n
    · have hkk : (k : Int) < (n : Int) := by omega
      have hlt2 : k < zs.length := by rw [← HN.out]; exact hlt
      obtain ⟨b, off, rfl, -, e0, -, -⟩ := hr.elem k hlt2
      have hg : zs.getD k 0 = zs[k] := by rw [List.getD_eq_getElem?_getD, List.getElem?_eq_getElem hlt2]; rfl
      obtain ⟨fn, tmps, assign, body, hy, hR⟩ := hY k wr hlt hJs
      rw [hg] at hy
      obtain ⟨x, hx⟩ : ∃ x, x = zs[k] := ⟨_, rfl⟩
      rw [← hx] at e0 hy
      clear hx hg hr hJs
      gi_wp2
      refine hR.mono ?_
      rintro _ W3 (⟨rfl, hJ3⟩ | ⟨rfl, hJx3⟩)
      · gi_wp2
        go_roundw
        case rel => exact ⟨k + 1, by omega, by go_num, hJ3⟩
        case measure => simp [intOf] <;> omega
      · gi_wp2
        refine bodyPost_ret (results_none rfl _ _ _) rfl ?_
        exact ⟨⟨_, rfl⟩, .inr ⟨k, hJx3⟩⟩
    · obtain rfl : k = n := by omega
      have hkk : ¬ ((k : Nat) : Int) < (k : Int) := by omega
      gi_wp2
      go_end0
      exact ⟨⟨_, rfl⟩, .inl hJs⟩

theorem svalues_any (a : Option Addr) (n cap : Nat) (w : World) :
    Calls Try.prog 27 #[.slice a n cap] w fun e w' => e = .returned (.func (.func 48) #[] #[.pointer (some ⟨w.heap.size, 0, none⟩)]) ∧ w' = w.alloc (.cells #[.slice a n cap] 23) := by
  have hmf : ∀ (fn : Fn) (first cap : Array Value) (w : World), (Instr.makeFunc fn first cap).run Try.prog w = .ok (.func fn first cap) w := fun _ _ _ _ => rfl
  go_enter Try.func27, Try.ntmps27
  go_wp2_with fail
  go_ret
  exact ⟨rfl, rfl⟩
theorem wpListIn_append_run {Fn : Fence} {nn : Nat} {P : Program} (w : World) {ops : Array Oper} {rest : List Oper} {o : Oper} {a : Act} {Q : Exit → Act → World → Prop} (hgd : o.guard = none) (s y : Operand) (t : TypeId)
    (ho : o.op = .call { callee := .builtin .append, args := #[s, y], argTypes := #[t, t] }) (v x : Value) (hs : a.eval s = v) (hy : a.eval y = x) (v' : Value) (w' : World) (hrun : (Builtin.append_ #[t, t] o.type #[v, x]).run P w = .ok v' w')
    (h : wpListIn Fn nn P ops Q rest (a.put o.dst v') w') : wpListIn Fn nn P ops Q (o :: rest) a w := by
  refine wpListIn_plain hgd fun K' hK' => ?_
  unfold Oper.wpIn
  refine ⟨by simp [Oper.about, ho, resolve, Target.leads, Sem.run_pure], ?_⟩
  rw [Oper.semAt_plain Fn _ _ (by rw [ho]; intro c hc'; cases hc')]
  simp [execOp, ho, resolve, invoke, builtin, hs, hy, hrun, Result.andThen]
  exact hK' _ _ h

theorem grown_keeps8 {B : Nat} {W W' : World} (h : Below W.heap.size W W') : KeepsFrom B W W' := KeepsFrom.of_grownBy (grown_of_below h) fun j e => by cases e

theorem IR.keeps {base : Nat} {l : List Int} {v : Value} {W W' : World} {row : Option Nat} (h : IR base l v W) (hg : W.grownBy W' row) (hr : ∀ r, row = some r → ∃ o : Obj, W.heap[r]? = some o ∧ o.isCells = false) : IR base l v W' := by
  rcases h.split with ⟨rfl, rfl⟩ | ⟨g, cap, cur, rfl, hb, hlt, hcur, h1, h2, h3, h4⟩
  · exact IR.bare _ _
  · refine IR.of_block rfl hb ((hg.block g hlt fun e => ?_).trans hcur) h1 h2 h3 h4 h.rng
    obtain ⟨o, ho, hc⟩ := hr g e.symm
    rw [hcur] at ho
    cases ho
    cases hc

/-- What holds when some have come. -/
def ApI (W7 : World) (Bs : Nat) (zs : List Int) (k : Nat) (W : World) : Prop :=
  Only (fun j => j = Bs) W7 W ∧ ∃ v, W.heap[Bs]? = some (.cells #[v] 23) ∧ IR W7.heap.size (zs.take k) v W

theorem ApI.beside {W7 W W' : World} {Bs : Nat} {zs : List Int} {k : Nat} (h : ApI W7 Bs zs k W) (hp : Bs < W7.heap.size) {row : Option Nat} (hg : W.grownBy W' row) (hr : ∀ r, row = some r → W7.heap.size ≤ r ∧ ∃ o : Obj, W.heap[r]? = some o ∧ o.isCells = false) : ApI W7 Bs zs k W' := by
  obtain ⟨ho, v, h1, h2⟩ := h
  refine ⟨ho.thn (fun j hj => .inr (hr j hj).1) (only_of_grown (X := fun j => row = some j) hg fun k hk => hk), v, ?_, h2.keeps hg fun r e => (hr r e).2⟩
  exact (hg.block Bs (lt_of_heap h1) fun e => by have := (hr Bs e.symm).1; omega).trans h1

theorem ApI.drewN {W7 W : World} {Bs : Nat} {zs : List Int} {k : Nat} (h : ApI W7 Bs zs k W) (m : Nat) : ApI W7 Bs zs k (W.drewN m) := by
  obtain ⟨ho, v, h1, h2⟩ := h
  exact ⟨ho.then (Only.drewN _ _ _), v, h1, h2.next (below_drewN _ _)⟩

set_option maxRecDepth 20000 in
set_option maxHeartbeats 3200000 in
theorem AppendSeq_any (z : Nat) (va : Option Addr) (n cap : Nat) (zs : List Int) (hn : n = zs.length) (hl : n ≤ 1000000) (F : Nat → Prop) (w : World) (hz : w.cell? ⟨z, 0, none⟩ = some (.slice va n cap)) (hzl : z < w.heap.size) (hr : RepI w F zs (.slice va n cap)) (hF : ∀ k, F k → k < w.heap.size) :
    Calls Try.prog 63 #[.slice none 0 0, .func (.func 48) #[] #[.pointer (some ⟨z, 0, none⟩)]] w fun e w' => ∃ v, e = .returned v ∧ OwnI w zs v w' := by
  obtain ⟨W7, hW7⟩ : ∃ W7, W7 = w.alloc (.cells #[.slice none 0 0] 23) := ⟨_, rfl⟩
  have hb7 : Below w.heap.size w W7 := by rw [hW7]; exact below_alloc _ _
  have hx7 : W7.heap[w.heap.size]? = some (.cells #[.slice none 0 0] 23) := by rw [hW7]; exact heap_new _ _ _ rfl
  have hz7 : W7.heap.size = w.heap.size + 1 := by rw [hW7]; simp
  have hcz : W7.cell? ⟨z, 0, none⟩ = some (.slice va n cap) := (hb7.cell (p := ⟨z, 0, none⟩) hzl).trans hz
  have HIN : Hid (∀ (l : Nat) (J Jx : Nat → World → Prop) (W : World), (∀ k W, k ≤ n → J k W → (W.cell? ⟨z, 0, none⟩ = some (.slice va n cap) ∧ RepI W F zs (.slice va n cap))) → (∀ k W m, J k W → J k (W.drewN m)) →
      (∀ k W1, k < n → J k W1 → YieldAt Fence.wide (3 - 1 - 1) Try.prog l #[.int .i64 (zs.getD k 0)] W1 fun e W' => (e = .returned (.bool true) ∧ J (k + 1) W') ∨ (e = .returned (.bool false) ∧ Jx k W')) → J 0 W →
      CallsIn Fence.wide (3 - 1) Try.prog 48 (#[.func (.yield l) #[] #[]] ++ #[.pointer (some ⟨z, 0, none⟩)]) W fun e W' => (∃ v, e = .returned v) ∧ (J n W' ∨ ∃ k, Jx k W')) :=
    Lib.hid fun l J Jx W hJ hD hY h0 => vals_in l z va n cap zs hn (by omega) F J Jx hJ hY W h0
  have hI0 : ApI W7 w.heap.size zs 0 W7 := ⟨Only.refl _ _, _, hx7, by simpa using IR.bare _ _⟩
  have hkeep : ∀ k W, k ≤ n → ApI W7 w.heap.size zs k W → (W.cell? ⟨z, 0, none⟩ = some (.slice va n cap) ∧ RepI W F zs (.slice va n cap)) := fun k W _ h => by
    refine ⟨(World.cell?_of_block (a := ⟨z, 0, none⟩) (h.1.block z (by omega) (by omega))).trans hcz, (hr.below hF hb7).same (fun _ h => h) fun j hj => h.1.block j (by have := hF j hj; omega) (by have := hF j hj; omega)⟩
  have HN := Lib.hid hn
  have HR := Lib.hid hr.rng
  have HK := Lib.hid hkeep
  have HI0 := Lib.hid hI0
  have HB7 := Lib.hid hb7
  have HZ7 := Lib.hid hz7
  have HW7 := Lib.hid hW7
  clear hn hz hzl hr hF hb7 hx7 hz7 hcz hkeep hI0 hW7
  refine (callsIn_wide (n := 3)).1 ?_
  refine callsIn_of_wp_marks Try.func63 rfl trivial ?_ rfl
  simp only [Try.ntmps63, List.size_toArray, List.length_cons, List.length_nil, Nat.reduceAdd, Nat.reduceSub, Array.replicate_succ, Array.replicate_zero, List.push_toArray, List.append_toArray, List.nil_append, List.cons_append]
  gi_wp2
  rw [← HW7.out]
  have HNS : Hid (w.heap.size < W7.heap.size) := Lib.hid (by have := HZ7.out; omega)
  obtain ⟨Bs, hBs⟩ : ∃ Bs, Bs = w.heap.size := ⟨_, rfl⟩
  rw [← hBs] at HI0 HK HNS ⊢
  have HBS := Lib.hid hBs
  clear hBs
  refine wpIn_rangeFunc_byD (F := Fence.wide) (n := 3) rfl (by omega) (gf := 48) (lb := #[.pointer (some ⟨z, 0, none⟩)]) rfl trivial (enters_of Try.func48 (by kernel_rfl) rfl)
    n (fun k => #[.int .i64 (zs.getD k 0)]) (fun _ => rfl) (fun _ W => W.cell? ⟨z, 0, none⟩ = some (.slice va n cap) ∧ RepI W F zs (.slice va n cap)) HIN.out
    (ApI W7 Bs zs) (fun _ _ _ => False)
    (fun s W W' row hs hg hr => hs.beside HNS.out hg hr) (fun c s W W' row hs hg hr => hs)
    HK.out HI0.out (fun k W m hs => hs.drewN m)
    (fun k a' _ => a' = { tmps := #[.slice none 0 0, .func (.func 48) #[] #[.pointer (some ⟨z, 0, none⟩)], .pointer (some ⟨Bs, 0, none⟩), undef, .slice none 0 0, .int .i64 (zs.getD k 0), .func (.func 48) #[] #[.pointer (some ⟨z, 0, none⟩)], .int .i64 (zs.getD k 0), undef, undef, undef, undef, undef], defers := [] })
    (fun _ _ _ _ _ hs _ _ => hs) ?assign ?body ?done (fun _ _ _ _ _ h => h.elim)
  case assign =>
    intro l k W K hI hk hK
    gi_wp2
    exact hK _ _ (KeepsFrom.refl _ _) hI rfl
  case body =>
    rintro l k a' W ⟨ho, v, h1, h2⟩ rfl hk
    have hk2 : k < zs.length := by rw [← HN.out]; exact hk
    have hg : zs.getD k 0 = zs[k] := by rw [List.getD_eq_getElem?_getD, List.getElem?_eq_getElem hk2]; rfl
    rw [hg]
    obtain ⟨x, hx⟩ : ∃ x, x = zs[k] := ⟨_, rfl⟩
    rw [← hx]
    have hxb := HR.out _ (List.getElem_mem hk2)
    rw [← hx] at hxb
    have htk : zs.take (k + 1) = zs.take k ++ [x] := by rw [hx]; exact take_snoc hk2
    obtain ⟨a2, c2, rfl⟩ := h2.slice
    have hm : (zs.take k).length = k := by simp; omega
    rw [hm] at h1 h2
    obtain ⟨e0, z0, bz⟩ := block1 h1
    have hb1 := below_alloc W (.cells #[.int .i64 x] 3)
    obtain ⟨ib, hib, hib0, hib1, hib2⟩ := info_parts infoInt
    obtain ⟨v', w3, hrun, happ⟩ := run_append_any (P := Try.prog) (W.alloc (.cells #[.int .i64 x] 3)) W7.heap.size 23 23 3 ib (.int .i64 0) 1 8 Try.underlying23 hib hib0 hib1 hib2 rfl (by decide) _ _ _ (h2.next hb1).own (.slice (some ⟨W.heap.size, 0, none⟩) 1 1) 1 [intV x]
      (one_int rfl hxb).yields (by unfold maxLen; omega) (by omega) (by have := ho.size; simp; omega)
    have hnb : (Value.slice a2 k c2).ownBlock ≠ some Bs := fun e => by have := (h2.block_lt e).1; have := HNS.out; omega
    have hq : w3.heap[Bs]? = some (.cells #[.slice a2 k c2] 23) := (happ.2.1.block Bs (by simp; omega) fun e => hnb e.symm).trans (old_below h1 hb1)
    have hir : IR W7.heap.size (zs.take (k + 1)) v' w3 := ⟨by rw [htk, List.map_append, List.length_append]; exact happ.1, fun y hy => HR.out y (List.mem_of_mem_take hy)⟩
    have hnb' : v'.ownBlock ≠ some Bs := fun e => by have := (hir.block_lt e).1; have := HNS.out; omega
    have hkp : KeepsFrom W7.heap.size W (w3.setCell ⟨Bs, 0, none⟩ v') := ((grown_keeps8 hb1).trans ((KeepsOthers.of_grownBy happ.2.1 fun j o hj hjo => by
      rcases (h2.next hb1).split with ⟨-, h⟩ | ⟨g, cap, cur, h, -, -, hcur, -⟩
      · rw [h] at hj; cases hj
      · rw [h] at hj
        cases hj
        rw [hcur] at hjo
        cases hjo
        rfl).from _)).trans ((KeepsOthers.setCell w3 _ _).from _)
    have hfin : ApI W7 Bs zs (k + 1) (w3.setCell ⟨Bs, 0, none⟩ v') := by
      refine ⟨((ho.next hb1).thn (X1 := fun j => (Value.slice a2 k c2).ownBlock = some j) (fun j hj => .inr ((h2.block_lt hj).1)) (only_of_grown happ.2.1 fun k hk => hk)).set (.inl rfl) _, v', ?_, hir.set hnb'⟩
      simp [World.setCell, Array.getElem?_modify, hq]
    obtain ⟨a3, c3, hv3⟩ := hir.slice
    obtain ⟨m3, hm3⟩ : ∃ m3, m3 = (zs.take (k + 1)).length := ⟨_, rfl⟩
    rw [← hm3] at hv3
    subst hv3
    clear hm3
    obtain ⟨f0, y0, fz⟩ := block1 hq
    have HKP := Lib.hid hkp
    have HFIN := Lib.hid hfin
    clear hk2 hg hx hxb htk hm h1 h2 hb1 happ hnb hq hir hnb' hkp hfin ho hib hib0 hib1 hib2
    gi_wp2_with (first | (gi_at_builtin; refine wpListIn_append_run _ rfl (.tmp 8) (.tmp 10) 23 rfl _ _ rfl rfl _ _ hrun ?_))
    exact ⟨HKP.out, HFIN.out⟩
  case done =>
    rintro D W hD ⟨ho, v, h1, h2⟩ hK
    rw [List.take_of_length_le (by rw [HN.out]; exact Nat.le_refl _)] at h2
    obtain ⟨a2, c2, rfl⟩ := h2.slice
    obtain ⟨y0, yf, yz⟩ := block1 h1
    have HO := Lib.hid ho
    have H2 := Lib.hid h2
    have HK2 := Lib.hid hK
    clear ho h1 h2 hK
    gi_wp2
    refine ⟨by simp, .inl ⟨_, _, rfl, run_takeDeferred HK2.out, ?_⟩⟩
    have hr3 := H2.out.keeps (grownBy_putObj' W D (.deferred none)) fun r e => by cases e; exact ⟨_, HK2.out, rfl⟩
    refine ⟨.slice a2 zs.length c2, by simp [results, Try.f63, go_sem], _, rfl, ?_, hr3.lower HB7.out.size⟩
    have hoo : Only (fun j => j = Bs ∨ j = D) W7 (W.putObj D (.deferred none)) := (HO.out.mono fun j hj => .inl hj).thn (fun j hj => .inl (.inr (Option.some.inj hj).symm)) (only_of_grown (X := fun j => some D = some j) (grownBy_putObj' W D (.deferred none)) fun k hk => hk)
    refine below_only HB7.out hoo fun j hj => ?_
    have := HBS.out
    have := HB7.out.size
    rcases hj with h | h <;> omega
end Go.Proofs.Ytdngfbljcmbniaa.M

/- Part: MmT. -/
namespace Go.Proofs.Ytdngfbljcmbniaa.M
open Go.RowKit Go.Sort

def sortN (l : List Int) : List Int := l.mergeSort fun x y => decide (x ≤ y)

theorem sortN_perm (l : List Int) : (sortN l).Perm l := List.mergeSort_perm _ _

theorem sortN_len (l : List Int) : (sortN l).length = l.length := (sortN_perm l).length_eq

theorem sortN_mem {l : List Int} {x : Int} : x ∈ sortN l ↔ x ∈ l := (sortN_perm l).mem_iff

theorem sortN_le (l : List Int) : (sortN l).Pairwise (· ≤ ·) := by
  have h := List.pairwise_mergeSort (le := fun x y : Int => decide (x ≤ y)) (fun a b c h1 h2 => by simp at h1 h2 ⊢; omega) (fun a b => by simp; omega) l
  exact h.imp fun h => by simpa using h

theorem fSort : Try.laysSort_ren.f 189 = 47 := by kernel_rfl

theorem Sort_any (base : Nat) (l : List Int) (v : Value) (w : World) (h : IR base l v w) (hl : l.length ≤ 1000000) :
    Calls Try.prog 47 #[v] w fun e w' => e = .returned (.tuple #[]) ∧ Turned base (sortN l) v v w w' := by
  rw [← fSort]
  rcases h.split with ⟨rfl, rfl⟩ | ⟨g, cap, cur, rfl, hb, hlt, hcur, h1, h2, h3, h4⟩
  · refine (Any.slices_Sort_int_none Try.laysSort none 0 w).mono ?_
    rintro e w' ⟨rfl, rfl⟩
    exact ⟨rfl, by simpa [sortN] using IR.bare base w', gb_refl _ _, .inl rfl⟩
  · refine (Any.slices_Sort_int Try.laysSort g 0 cap l w h.holds hlt (by omega)).mono ?_
    rintro e w' ⟨rfl, n, os, rfl⟩
    refine ⟨rfl, ⟨?_, fun x hx => h.rng x (sortN_mem.1 hx)⟩, grownBy_sortedI _, .inl rfl⟩
    have := ownsRow_sortedI (n := n) (os := os) (base := base) (ts := sortN l) (ss := l) (sortN_len l) hb hcur h1 (by unfold maxLen; omega) (by omega)
    rw [sortN_len]
    exact this

set_option maxRecDepth 20000 in
theorem Collect_any (z : Nat) (va : Option Addr) (n cap : Nat) (zs : List Int) (hn : n = zs.length) (hl : n ≤ 1000000) (F : Nat → Prop) (w : World) (hz : w.cell? ⟨z, 0, none⟩ = some (.slice va n cap)) (hzl : z < w.heap.size) (hr : RepI w F zs (.slice va n cap)) (hF : ∀ k, F k → k < w.heap.size) :
    Calls Try.prog 46 #[.func (.func 48) #[] #[.pointer (some ⟨z, 0, none⟩)]] w fun e w' => ∃ v, e = .returned v ∧ OwnI w zs v w' := by
  have HC := Lib.hid (AppendSeq_any z va n cap zs hn hl F w hz hzl hr hF)
  clear hn hl hz hzl hr hF
  go_enter Try.func46, Try.ntmps46
  go_wp2_with fail
  refine HC.out.mono ?_
  rintro e w' ⟨v, rfl, ho⟩
  have HO := Lib.hid ho
  clear ho
  go_wp2_with fail
  go_ret
  exact ⟨_, rfl, HO.out⟩

set_option maxRecDepth 20000 in
theorem Sorted_any (z : Nat) (va : Option Addr) (n cap : Nat) (zs : List Int) (hn : n = zs.length) (hl : n ≤ 1000000) (F : Nat → Prop) (w : World) (hz : w.cell? ⟨z, 0, none⟩ = some (.slice va n cap)) (hzl : z < w.heap.size) (hr : RepI w F zs (.slice va n cap)) (hF : ∀ k, F k → k < w.heap.size) :
    Calls Try.prog 26 #[.func (.func 48) #[] #[.pointer (some ⟨z, 0, none⟩)]] w fun e w' => ∃ v, e = .returned v ∧ OwnI w (sortN zs) v w' := by
  have HC := Lib.hid (Collect_any z va n cap zs hn hl F w hz hzl hr hF)
  have HL : Hid (zs.length ≤ 1000000) := Lib.hid (by rw [← hn]; exact hl)
  clear hn hl hz hzl hr hF
  go_enter Try.func26, Try.ntmps26
  go_wp2_with fail
  refine HC.out.mono ?_
  rintro e w1 ⟨v, rfl, ho⟩
  have HS := Lib.hid (Sort_any w.heap.size zs v w1 ho.2 HL.out)
  have HO := Lib.hid ho
  obtain ⟨a, c, hv⟩ := ho.2.slice
  obtain ⟨m, hm⟩ : ∃ m, m = zs.length := ⟨_, rfl⟩
  rw [← hm] at hv
  subst hv
  clear ho hm
  go_wp2_with fail
  refine HS.out.mono ?_
  rintro e w2 ⟨rfl, ht⟩
  have HT := Lib.hid ht
  clear ht
  go_wp2_with fail
  go_ret
  exact ⟨_, rfl, HO.out.turned HT.out⟩

set_option maxRecDepth 20000 in
theorem Quorum_any (c : Cf) (F : Nat → Prop) (vv lv : Value) (w : World) (hv : RepI w F c.v vv) (hl : RepI w F c.l lv) (hs : c.v.length ≤ 1000000) :
    Calls Try.prog 15 #[.agg #[vv, lv]] w fun e w' => e = .returned (.int .i64 ((c.v.length / 2 + 1 : Nat) : Int)) ∧ Below w.heap.size w w' := by
  obtain ⟨a, k, rfl, -⟩ := hv.slice
  obtain ⟨a', k', rfl, -⟩ := hl.slice
  obtain ⟨n, hn⟩ : ∃ n, n = c.v.length := ⟨_, rfl⟩
  obtain ⟨m, hm⟩ : ∃ m, m = c.l.length := ⟨_, rfl⟩
  rw [← hn] at hs ⊢
  rw [← hm]
  have hq : (n : Int).tdiv 2 = ((n / 2 : Nat) : Int) := by rw [Int.tdiv_eq_ediv_of_nonneg (by omega)]; rfl
  clear hv hl hn hm
  go_enter Try.func15, Try.ntmps15
  go_wp2_with fail
  go_ret
  exact ⟨by simp, below_alloc _ _⟩

theorem count_snoc {V : List Int} {k : Nat} (hk : k < V.length) (p : Int → Bool) : (V.take (k + 1)).countP p = (V.take k).countP p + if p V[k] then 1 else 0 := by
  rw [take_snoc hk, List.countP_append, List.countP_singleton]

set_option maxRecDepth 20000 in
set_option maxHeartbeats 3200000 in
theorem Majority_any (c : Cf) (ids : List Int) (F G : Nat → Prop) (vv lv iv : Value) (w : World) (hv : RepI w F c.v vv) (hl : RepI w F c.l lv) (hF : ∀ k, F k → k < w.heap.size) (hs : c.v.length ≤ 1000000) (hi : RepI w G ids iv) (hG : ∀ k, G k → k < w.heap.size) (his : ids.length ≤ 1000000) :
    Calls Try.prog 14 #[.agg #[vv, lv], iv] w fun e w' => e = .returned (.bool (yes (maj c ids))) ∧ Below w.heap.size w w' := by
  obtain ⟨a, k, hvv, hx1⟩ := hv.slice
  obtain ⟨a', k', hlv, hx2⟩ := hl.slice
  obtain ⟨ia, ik, hiv, hx3⟩ := hi.slice
  obtain ⟨n, hn⟩ : ∃ n, n = c.v.length := ⟨_, rfl⟩
  obtain ⟨m, hm⟩ : ∃ m, m = c.l.length := ⟨_, rfl⟩
  obtain ⟨N, hN⟩ : ∃ N, N = ids.length := ⟨_, rfl⟩
  obtain ⟨y, hy⟩ : ∃ y, y = yes (maj c ids) := ⟨_, rfl⟩
  rw [← hy]
  rw [← hn] at hvv hx1 hs
  rw [← hm] at hlv hx2
  rw [← hN] at hiv hx3 his
  subst hvv hlv hiv
  obtain ⟨W, hW⟩ : ∃ W, W = w.alloc (.cells #[.slice a n k, .slice a' m k'] 25) := ⟨_, rfl⟩
  have HB : Hid (Below w.heap.size w W) := Lib.hid (by rw [hW]; exact below_alloc _ _)
  obtain ⟨g, hg⟩ : ∃ g, g = w.heap.size := ⟨_, rfl⟩
  have HBX : Hid (W.heap[g]? = some (.cells #[.slice a n k, .slice a' m k'] 25)) := Lib.hid (by rw [hW, hg]; exact heap_alloc_new w _)
  have HV := Lib.hid (hv.below hF HB.out)
  have HL := Lib.hid (hl.below hF HB.out)
  have HI := Lib.hid (hi.below hG HB.out)
  have HFW : Hid (∀ k, F k → k < W.heap.size) := Lib.hid fun k hk => Nat.lt_of_lt_of_le (hF k hk) HB.out.size
  have HGW : Hid (∀ k, G k → k < W.heap.size) := Lib.hid fun k hk => Nat.lt_of_lt_of_le (hG k hk) HB.out.size
  have HN := Lib.hid hn
  have HNN := Lib.hid hN
  have HG := Lib.hid hg
  have HW := Lib.hid hW
  have HY := Lib.hid hy
  clear hv hl hi hF hG hn hm hN hg hW hy
  go_enter Try.func14, Try.ntmps14
  go_wp2_with fail
  rw [← HG.out, ← HW.out]
  refine (svalues_any ia N ik W).mono ?_
  rintro e w1 ⟨rfl, rfl⟩
  go_wp2_with fail
  refine (Sorted_any W.heap.size ia N ik ids HNN.out his G _ (by
    have := cell_of_row _ W.heap.size 0 _ _ _ (heap_alloc_new W (.cells #[.slice ia N ik] 23))
    exact this) (by simp) (HI.out.below HGW.out (below_alloc _ _)) (fun k hk => by have := HGW.out k hk; simp; omega)).mono ?_
  rintro e w2 ⟨v, rfl, ho⟩
  have HB2 : Hid (Below W.heap.size W w2) := Lib.hid ((below_alloc W _).trans (ho.1.mono (by simp)))
  obtain ⟨sa, sc, hsv⟩ := ho.2.slice
  rw [sortN_len, ← HNN.out] at hsv
  subst hsv
  have HIR := Lib.hid ho.2
  obtain ⟨bs, hbs⟩ : ∃ bs, bs = (W.alloc (.cells #[.slice ia N ik] 23)).heap.size := ⟨_, rfl⟩
  rw [← hbs] at HIR
  obtain ⟨c0, c1, -, -, cz⟩ := block2' (old_below HBX.out HB2.out)
  clear ho hbs
  go_wp2_with fail
  obtain ⟨w0, hw0⟩ : ∃ w0 : World, w0 = w2 := ⟨_, rfl⟩
  subst hw0
  go_loopg [6, 17] n (fun gk cn i wr => ∃ z t : Nat, z + gk = n ∧ t ≤ z ∧ cn = .int .i64 (t : Int) ∧ i = .int .i64 (z : Int) ∧ Hid (Below w0.heap.size w0 wr) ∧ Hid (t = (c.v.take z).countP fun x => decide (x ∈ ids)))
  case atStart => exact ⟨0, 0, by omega, by omega, rfl, rfl, Lib.hid (Below.refl _ _), Lib.hid (by simp)⟩
  case round =>
    obtain ⟨z, t, hz, htz, rfl, rfl, HBR, HT⟩ := hrel
    have HBWR : Hid (Below W.heap.size W wr) := Lib.hid (HB2.out.trans (HBR.out.mono HB2.out.size))
    by_cases hlt : z < n
    · have hkk : (z : Int) < (n : Int) := by omega
      have hl1 : z < c.v.length := by rw [← HN.out]; exact hlt
      obtain ⟨ab, ao, hab, hfb, e0, -, -⟩ := (HV.out.below HFW.out HBWR.out).elem z hl1
      subst hab
      have hbz : ab < wr.heap.size := Nat.lt_of_lt_of_le (HFW.out ab hfb) HBWR.out.size
      have hcnt := count_snoc hl1 fun x => decide (x ∈ ids)
      obtain ⟨x, hx⟩ : ∃ x, x = c.v[z] := ⟨_, rfl⟩
      rw [← hx] at e0 hcnt
      have HCN := Lib.hid hcnt
      clear hcnt hx hfb
      go_wp2_with fail
      refine (Search_any (sortN ids) x _ _ wr (HIR.out.next HBR.out).rep (sortN_le ids) (by rw [sortN_len, ← HNN.out]; omega)).mono ?_
      rintro e w3 ⟨rfl, q, rfl⟩
      have HB3 : Hid (Below w0.heap.size w0 (wr.drewN q)) := Lib.hid (HBR.out.trans ⟨rfl, rfl, rfl, Nat.le_refl _, fun _ _ => rfl⟩)
      by_cases hm : x ∈ ids
      · rw [yes_t (sortN_mem.2 hm)]
        have HT2 : Hid (t + 1 = (c.v.take (z + 1)).countP fun x => decide (x ∈ ids)) := Lib.hid (by rw [HCN.out, ← HT.out, if_pos (by simpa using hm)])
        clear hm
        go_wp2_with fail
        go_roundg (gk - 1)
        case measure => omega
        case rel => exact ⟨z + 1, t + 1, by omega, by omega, by go_num, by go_num, HB3, HT2⟩
      · rw [yes_f (fun h => hm (sortN_mem.1 h))]
        have HT2 : Hid (t = (c.v.take (z + 1)).countP fun x => decide (x ∈ ids)) := Lib.hid (by rw [HCN.out, ← HT.out, if_neg (by simpa using hm), Nat.add_zero])
        clear hm
        go_wp2_with fail
        go_roundg (gk - 1)
        case measure => omega
        case rel => exact ⟨z + 1, t, by omega, by omega, by go_num, by go_num, HB3, HT2⟩
    · obtain rfl : z = n := by omega
      have hkk : ¬ ((z : Nat) : Int) < (z : Int) := by omega
      have HT2 : Hid (t = c.v.countP fun x => decide (x ∈ ids)) := Lib.hid (by have := HT.out; rw [HN.out, List.take_length] at this; exact this)
      obtain ⟨d0, d1, -, -, dz⟩ := block2' (old_below HBX.out HBWR.out)
      have HQ := Lib.hid (Quorum_any c F _ _ wr (HV.out.below HFW.out HBWR.out) (HL.out.below HFW.out HBWR.out) (by rw [← HN.out]; exact hs))
      rw [← HN.out] at HQ
      clear c0 c1
      go_wp2_with fail
      refine HQ.out.mono ?_
      rintro e w4 ⟨rfl, hb4⟩
      have HB4 : Hid (Below w.heap.size w w4) := Lib.hid (HB.out.trans ((HBWR.out.trans (hb4.mono HBWR.out.size)).mono HB.out.size))
      clear hb4
      have HE : Hid (y = decide ((t : Int) ≥ ((z / 2 + 1 : Nat) : Int))) := Lib.hid (by
        rw [HY.out]
        refine yes_of ?_
        rw [decide_eq_true_iff]
        unfold maj
        rw [← HT2.out, ← HN.out]
        omega)
      go_wp2_with fail
      go_ret
      exact ⟨by rw [HE.out]; rfl, HB4.out⟩
end Go.Proofs.Ytdngfbljcmbniaa.M
