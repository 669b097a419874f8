/- The document's Equal, of a value and the same one. -/
import Derived.Test.YtafodaoehnggfaaOpenVal
import Derived.OrdersHeld
import Derived.Deep.RegionHeld
namespace Go.Proofs.Ytafodaoehnggfaa.M
open Go.RowKit

theorem string_at' {w : World} {F : Nat → Prop} {L : List UInt8} {v : Value} (h : RepB w F L v) : (convert 29 9 v).run Try.prog w = .ok (.string (strOf L)) w :=
  run_string (P := Try.prog) h 29 5 9 Try.underlying29 Try.underlying5 Try.underlying9

def EqualSaid (d : V) : Prop := ∀ (F : Nat → Prop) (v u : Value) (w : World), RepV w F d v → RepV w F d u → (∀ b, F b → b < w.heap.size) →
  Calls Try.prog 13 #[v, u] w fun e w' => e = .returned (.bool true) ∧ Below w.heap.size w w'

def EqualAt (w : World) (o1 o2 : Obj) (n k : Nat) (wr : World) : Prop := k ≤ n ∧ Below w.heap.size w wr ∧ wr.heap[w.heap.size]? = some o1 ∧ wr.heap[w.heap.size + 1]? = some o2

set_option maxHeartbeats 1600000 in
theorem equal_of (n : Nat) (b : List UInt8) (l : List V) (hl : ∀ (k : Nat) (h : k < l.length), EqualSaid l[k]) : EqualSaid (.mk n b l) := by
  intro F v u w hv hu hF
  obtain ⟨vb, vl, rfl, hn, hb, hvl⟩ := RepV_mk.1 hv
  obtain ⟨ub, ul, rfl, -, hb2, hul⟩ := RepV_mk.1 hu
  obtain ⟨ba, bc, rfl, -⟩ := hb.slice
  obtain ⟨la, lc, rfl, hlen⟩ := hvl.slice
  obtain ⟨ba2, bc2, rfl, -⟩ := hb2.slice
  obtain ⟨la2, lc2, rfl, -⟩ := hul.slice
  have HV := Lib.hid hvl
  have HU := Lib.hid hul
  have HL := Lib.hid hl
  have HF := Lib.hid hF
  obtain ⟨o1, ho1⟩ : ∃ o, o = Obj.cells #[.int .u64 (n : Int), .slice ba b.length bc, .slice la l.length lc] 31 := ⟨_, rfl⟩
  obtain ⟨o2, ho2⟩ : ∃ o, o = Obj.cells #[.int .u64 (n : Int), .slice ba2 b.length bc2, .slice la2 l.length lc2] 31 := ⟨_, rfl⟩
  have hold : ∀ b, F b → ((w.alloc o1).alloc o2).heap[b]? = w.heap[b]? := fun b hb => by
    have := HF.out b hb
    rw [Below.heap_alloc _ _ _ (by simp; omega), Below.heap_alloc _ _ _ this]
  have hs1 := string_at' (hb.same (w' := (w.alloc o1).alloc o2) (fun _ h => h) hold)
  have hs2 := string_at' (hb2.same (w' := (w.alloc o1).alloc o2) (fun _ h => h) hold)
  have HB0 : Hid (Below w.heap.size w ((w.alloc o1).alloc o2)) := Lib.hid ((below_alloc _ _).alloc (by simp) _)
  have HX1 : Hid (((w.alloc o1).alloc o2).heap[w.heap.size]? = some o1) := Lib.hid (old_alloc (heap_new _ _ _ rfl))
  have HX2 : Hid (((w.alloc o1).alloc o2).heap[w.heap.size + 1]? = some o2) := Lib.hid (heap_new _ _ _ (by simp))
  have HO1 := Lib.hid ho1
  have HO2 := Lib.hid ho2
  subst ho1 ho2
  clear hv hu hb hb2 hvl hul hl hF hold
  go_enter Try.func13, Try.ntmps13
  go_wp2_with fail
  clear hs1 hs2
  go_loopw [5] (fun i wr => ∃ k : Nat, i = .int .i64 (k : Int) ∧ EqualAt w (.cells #[.int .u64 (n : Int), .slice ba b.length bc, .slice la l.length lc] 31) (.cells #[.int .u64 (n : Int), .slice ba2 b.length bc2, .slice la2 l.length lc2] 31) l.length k wr) (fun i _ => l.length - (intOf i).toNat)
  case atStart => exact ⟨0, rfl, Nat.zero_le _, HB0.out, HX1.out, HX2.out⟩
  case round =>
    obtain ⟨k, rfl, hk, hB, hx1, hx2⟩ := hrel
    obtain ⟨c0, c1, c2, -, -, -, hz1⟩ := block3 hx1
    obtain ⟨d0, d1, d2, -, -, -, hz2⟩ := block3 hx2
    have HY1 := Lib.hid hx1
    have HY2 := Lib.hid hx2
    have HB := Lib.hid hB
    clear hx1 hx2 hB
    by_cases hk2 : k < l.length
    · have hkk : (k : Int) < (l.length : Int) := by omega
      obtain ⟨eb, eoff, ea, hFe, u, hat, hu⟩ := HV.out.elem k hk2
      obtain ⟨gb, goff, ga, hFg, u2, hat2, hu2⟩ := HU.out.elem k hk2
      subst ea ga
      obtain ⟨x0, x1, x2, rfl, e0, e1, e2⟩ := hat.same (w' := wr) (HB.out.block eb (HF.out eb hFe))
      obtain ⟨y0, y1, y2, rfl, g0, g1, g2⟩ := hat2.same (w' := wr) (HB.out.block gb (HF.out gb hFg))
      have heb : eb < wr.heap.size := Nat.lt_of_lt_of_le (HF.out eb hFe) HB.out.size
      have hgb : gb < wr.heap.size := Nat.lt_of_lt_of_le (HF.out gb hFg) HB.out.size
      have HE := Lib.hid hu
      have HG := Lib.hid hu2
      clear hat hat2 hu hu2
      go_wp2_with fail
      refine wp_region_held (S := fun w' => Below wr.heap.size wr w') (by kernel_rfl) ?_
      have hS : Below wr.heap.size wr wr.drew := (Below.refl _ _).drew
      have q1 : ∀ w', Below wr.heap.size wr w' → w'.cell? ⟨w.heap.size, 2, none⟩ = some (.slice (some ⟨eb, eoff, none⟩) l.length lc) := fun w' hw' => (hw'.cell (p := ⟨w.heap.size, 2, none⟩) hz1).trans c2
      have q2 : ∀ w', Below wr.heap.size wr w' → w'.cell? ⟨w.heap.size + 1, 2, none⟩ = some (.slice (some ⟨gb, goff, none⟩) l.length lc2) := fun w' hw' => (hw'.cell (p := ⟨w.heap.size + 1, 2, none⟩) hz2).trans d2
      have r0 : ∀ w', Below wr.heap.size wr w' → w'.cell? ⟨eb, eoff + k * 3, none⟩ = some x0 := fun w' hw' => (hw'.cell (p := ⟨eb, eoff + k * 3, none⟩) heb).trans e0
      have r1 : ∀ w', Below wr.heap.size wr w' → w'.cell? ⟨eb, eoff + k * 3 + 1, none⟩ = some x1 := fun w' hw' => (hw'.cell (p := ⟨eb, eoff + k * 3 + 1, none⟩) heb).trans e1
      have r2 : ∀ w', Below wr.heap.size wr w' → w'.cell? ⟨eb, eoff + k * 3 + 2, none⟩ = some x2 := fun w' hw' => (hw'.cell (p := ⟨eb, eoff + k * 3 + 2, none⟩) heb).trans e2
      have s0 : ∀ w', Below wr.heap.size wr w' → w'.cell? ⟨gb, goff + k * 3, none⟩ = some y0 := fun w' hw' => (hw'.cell (p := ⟨gb, goff + k * 3, none⟩) hgb).trans g0
      have s1 : ∀ w', Below wr.heap.size wr w' → w'.cell? ⟨gb, goff + k * 3 + 1, none⟩ = some y1 := fun w' hw' => (hw'.cell (p := ⟨gb, goff + k * 3 + 1, none⟩) hgb).trans g1
      have s2 : ∀ w', Below wr.heap.size wr w' → w'.cell? ⟨gb, goff + k * 3 + 2, none⟩ = some y2 := fun w' hw' => (hw'.cell (p := ⟨gb, goff + k * 3 + 2, none⟩) hgb).trans g2
      clear e0 e1 e2 g0 g1 g2 c0 c1 c2 d0 d1 d2
      refine H_take (i := 0) (v := ?_) rfl (by as_aux_lemma => kernel_rfl) (by as_aux_lemma => kernel_rfl) (by as_aux_lemma => kernel_rfl) (fun _ _ _ h => h) (by rfl) hS ?_ ?_
      rotate_left
      · intro w' hw'; go_simp; with_reducible rfl
      go_simp
      refine H_take (i := 1) (v := ?_) rfl (by as_aux_lemma => kernel_rfl) (by as_aux_lemma => kernel_rfl) (by as_aux_lemma => kernel_rfl) (fun _ _ _ h => h) (by rfl) hS ?_ ?_
      rotate_left
      · intro w' hw'; go_simp; with_reducible rfl
      go_simp
      refine H_take (i := 2) (v := ?_) rfl (by as_aux_lemma => kernel_rfl) (by as_aux_lemma => kernel_rfl) (by as_aux_lemma => kernel_rfl) (fun _ _ _ h => h) (by rfl) hS ?_ ?_
      rotate_left
      · intro w' hw'; go_simp; with_reducible rfl
      go_simp
      refine H_take (i := 3) (v := ?_) rfl (by as_aux_lemma => kernel_rfl) (by as_aux_lemma => kernel_rfl) (by as_aux_lemma => kernel_rfl) (fun _ _ _ h => h) (by rfl) hS ?_ ?_
      rotate_left
      · intro w' hw'; go_simp; with_reducible rfl
      go_simp
      refine H_take (i := 4) (v := ?_) rfl (by as_aux_lemma => kernel_rfl) (by as_aux_lemma => kernel_rfl) (by as_aux_lemma => kernel_rfl) (fun _ _ _ h => h) (by rfl) hS ?_ ?_
      rotate_left
      · intro w' hw'; go_simp; with_reducible rfl
      go_simp
      refine H_take (i := 5) (v := ?_) rfl (by as_aux_lemma => kernel_rfl) (by as_aux_lemma => kernel_rfl) (by as_aux_lemma => kernel_rfl) (fun _ _ _ h => h) (by rfl) hS ?_ ?_
      rotate_left
      · intro w' hw'; go_simp; with_reducible rfl
      go_simp
      refine H_take (i := 6) (v := ?_) rfl (by as_aux_lemma => kernel_rfl) (by as_aux_lemma => kernel_rfl) (by as_aux_lemma => kernel_rfl) (fun _ _ _ h => h) (by rfl) hS ?_ ?_
      rotate_left
      · intro w' hw'; go_simp; with_reducible rfl
      go_simp
      refine H_take (i := 7) (v := ?_) rfl (by as_aux_lemma => kernel_rfl) (by as_aux_lemma => kernel_rfl) (by as_aux_lemma => kernel_rfl) (fun _ _ _ h => h) (by rfl) hS ?_ ?_
      rotate_left
      · intro w' hw'; go_simp; with_reducible rfl
      go_simp
      refine H_take (i := 8) (v := ?_) rfl (by as_aux_lemma => kernel_rfl) (by as_aux_lemma => kernel_rfl) (by as_aux_lemma => kernel_rfl) (fun _ _ _ h => h) (by rfl) hS ?_ ?_
      rotate_left
      · intro w' hw'; go_simp; with_reducible rfl
      go_simp
      refine H_take (i := 9) (v := ?_) rfl (by as_aux_lemma => kernel_rfl) (by as_aux_lemma => kernel_rfl) (by as_aux_lemma => kernel_rfl) (fun _ _ _ h => h) (by rfl) hS ?_ ?_
      rotate_left
      · intro w' hw'; go_simp; with_reducible rfl
      go_simp
      refine H_one (i := 10) (by as_aux_lemma => kernel_rfl) rfl (by rfl) ?_
      go_simp
      refine (HL.out k hk2 F _ _ wr.drew (HE.out.same (w' := wr.drew) (fun _ h => h) fun b hb => HB.out.block b (HF.out b hb)) (HG.out.same (w' := wr.drew) (fun _ h => h) fun b hb => HB.out.block b (HF.out b hb)) (fun b hb => Nat.lt_of_lt_of_le (HF.out b hb) HB.out.size)).mono ?_
      rintro e w1 ⟨rfl, hB1⟩
      have hS1 : Below wr.heap.size wr w1 := hS.trans hB1
      refine ⟨hS1, ?_⟩
      go_simp
      refine H_take (i := 11) (v := ?_) rfl (by as_aux_lemma => kernel_rfl) (by as_aux_lemma => kernel_rfl) (by as_aux_lemma => kernel_rfl) (fun _ _ _ h => h) (by rfl) hS1 ?_ ?_
      rotate_left
      · intro w' hw'; go_simp; with_reducible rfl
      go_simp
      refine wpAnyH_done (by as_aux_lemma => kernel_rfl) ?_ _
      clear q1 q2 r0 r1 r2 s0 s1 s2 hS hB1
      have HS1 := Lib.hid hS1
      clear hS1
      go_wp2_with fail
      go_roundw
      case rel => exact ⟨k + 1, by go_num, by omega, HB.out.trans (HS1.out.mono HB.out.size), (HS1.out.block _ hz1).trans HY1.out, (HS1.out.block _ hz2).trans HY2.out⟩
      case measure => simp [intOf]; omega
    · have hkk : ¬ (k : Int) < (l.length : Int) := by omega
      go_wp2_with fail
      go_ret
      exact ⟨rfl, HB.out⟩

theorem equal_sized : ∀ (n : Nat) (d : V), vsize d ≤ n → EqualSaid d
  | 0, .mk _ _ _, h => by simp [vsize] at h
  | n + 1, .mk a b l, h => equal_of a b l fun k hk => equal_sized n l[k] (by have := vsizes_get l k hk; simp only [vsize] at h; omega)

theorem Equal_same (d : V) : EqualSaid d := equal_sized _ d (Nat.le_refl _)
end Go.Proofs.Ytafodaoehnggfaa.M
