/- The program's disk: is one named twice? -/
import Derived.Test.YtgiipkmkmomofaaProjF
namespace Go.Proofs.Ytgiipkmkmomofaa.M
open Go.RowKit Go.Maps
open D (Fl Dk)

theorem zeroInt (w : World) : (zeroValue 3).run Try.prog w = .ok (.int .i64 0) w := by kernel_rfl

theorem nodup_snoc {l : List ByteArray} {s : ByteArray} : (l ++ [s]).Nodup ↔ l.Nodup ∧ s ∉ l := by
  rw [List.nodup_append]
  simp only [List.nodup_cons, List.not_mem_nil, not_false_eq_true, List.nodup_nil, and_self, true_and, List.mem_singleton]
  constructor
  · rintro ⟨h1, h2⟩
    exact ⟨h1, fun h => h2 s h s rfl rfl⟩
  · rintro ⟨h1, h2⟩
    refine ⟨h1, fun a ha b hb e => ?_⟩
    subst hb
    exact h2 (e ▸ ha)

/-- Is one named twice? -/
def dupB (l : List ByteArray) : Bool := decide (¬ l.Nodup)

/-- The map of what was seen. -/
def SeenAt (w : World) (B : Nat) (l : List ByteArray) (wr : World) : Prop :=
  Below w.heap.size w wr ∧ ∃ M : DataW Nat, wr.ownsMap Try.prog 9 (plainElem Try.prog 3) B l.length M ∧ (∀ s : ByteArray, Maps.has M (.string s.data.toList) = true ↔ s ∈ l) ∧ (Maps.size M = l.length ↔ l.Nodup) ∧ Maps.size M ≤ l.length

set_option maxRecDepth 100000 in
set_option maxHeartbeats 1600000 in
theorem Twice_any (names : List ByteArray) (F : Nat → Prop) (vn : Value) (w : World) (hv : RepSl w F names vn) (hF : ∀ k, F k → k < w.heap.size) (hs : ∀ s ∈ names, s.size ≤ 9223372036854775807) :
    Calls Try.prog 46 #[vn] w fun e w' => e = .returned (.bool (dupB names)) ∧ Below w.heap.size w w' := by
  have hmm := @run_makeMap Try.prog
  obtain ⟨na, nc, rfl, hnl⟩ := hv.slice
  have HV := Lib.hid hv
  have HF := Lib.hid hF
  have HS := Lib.hid hs
  clear hv hF hs
  go_enter Try.func46, Try.ntmps46
  go_wp2_with fail
  go_loopw [5, 9] (fun _ i wr => ∃ k : Nat, k ≤ names.length ∧ i = .int .i64 (k : Int) ∧ Hid (SeenAt w w.heap.size (names.take k) wr)) (fun _ i _ => names.length - (intOf i).toNat)
  case atStart =>
    refine ⟨0, Nat.zero_le _, rfl, Lib.hid ⟨(Below.refl _ _).alloc (Nat.le_refl _) _, .map [], World.ownsMap_made _ _ _ _, fun s => by simp [has_eq], by simp [Maps.size], by simp [Maps.size]⟩⟩
  case round =>
    obtain ⟨k, hk, rfl, HA⟩ := hrel
    by_cases hlt : k < names.length
    · have hkk : (k : Int) < (names.length : Int) := by omega
      obtain ⟨hbel, M, hown, hhas, hnd, hsz⟩ := HA.out
      have hv2 : RepSl wr F names (.slice na names.length nc) := HV.out.same (fun _ h => h) fun j hj => hbel.block j (HF.out j hj)
      obtain ⟨b, off, rfl, hFb, hc⟩ := hv2.elem k hlt
      have hbz : b < wr.heap.size := Nat.lt_of_lt_of_le (HF.out b hFb) hbel.size
      obtain ⟨s, hs⟩ : ∃ s, s = names[k] := ⟨_, rfl⟩
      rw [← hs] at hc
      have hss : s.size ≤ 9223372036854775807 := HS.out s (by rw [hs]; exact List.getElem_mem hlt)
      have hkey := key_of hss
      have HKEY := Lib.hid hkey
      have HOWN := Lib.hid hown
      have hlk : (names.take k).length = k := by simp; omega
      have HNEW : Hid (∀ (d' : DataW Nat) (w2 : World), w2.ownsMap Try.prog 9 (plainElem Try.prog 3) w.heap.size ((names.take k).length + 1) (M.put (.string s.data.toList) d') → wr.grownBy w2 (some w.heap.size) → SeenAt w w.heap.size (names.take (k + 1)) w2) := Lib.hid fun d' w2 ho hg => by
        have ht : names.take (k + 1) = names.take k ++ [s] := by rw [hs]; exact List.take_succ_eq_append_getElem hlt
        have htid := hown.tidy law9
        refine ⟨hbel.grown hg hbel.size (fun j hj => by cases hj; exact Nat.le_refl _), _, by rw [ht, List.length_append]; exact ho, fun t => ?_, ?_, ?_⟩
        · by_cases e : t = s
          · subst e
            rw [has_put_same htid.isMap (show WideAt.IsKeyLit (.string t.data.toList) from trivial), ht]
            simp
          · rw [has_put_other (key_ne e), hhas, ht]
            simp [e]
        · rw [size_put htid, ht, nodup_snoc, List.length_append, ← hnd, hlk]
          by_cases e : s ∈ names.take k
          · rw [if_pos ((hhas s).2 e)]
            simp only [e, not_true_eq_false, and_false, iff_false, List.length_cons, List.length_nil]
            omega
          · rw [if_neg fun h => e ((hhas s).1 h)]
            simp only [e, not_false_eq_true, and_true, List.length_cons, List.length_nil]
            omega
        · rw [size_put htid, ht, List.length_append]
          split <;> simp <;> omega
      have HM : Hid (names.length ≤ 9223372036854775807) := Lib.hid hnl
      have hb : (names.take k).length < maxLen := by unfold maxLen; omega
      clear hbel hown hhas hnd hsz hs hss hv2 hlk HA
      go_wp2_with (first
        | (at_lookup; refine wpList_lookup_own_int _ rfl _ _ 88 rfl 9 3 .i64 law9 Try.underlying88 Try.underlying3 (zeroInt _) w.heap.size _ _ rfl HOWN.out _ _ rfl HKEY.out ?_; intro c hat hwc)
        | (at_mapUpdate; refine wpList_mapUpdate_own _ rfl _ _ _ 88 rfl 9 3 law9 Try.underlying88 _ w.heap.size _ _ rfl HOWN.out hb _ _ _ rfl rfl HKEY.out _ [] (plainElem_int Try.underlying3 (wrap64_wf _)) ?_; intro w1 hown1 hgrow1)
        | go_in)
      have HN := Lib.hid (HNEW.out _ w1 hown1 hgrow1)
      clear hown1 hgrow1
      go_roundw
      case rel => exact ⟨k + 1, by omega, by go_num, HN⟩
      case measure => simp [intOf]; omega
    · have hkk : ¬ (k : Int) < (names.length : Int) := by omega
      obtain rfl : k = names.length := by omega
      obtain ⟨hbel, M, hown, hhas, hnd, hsz⟩ := HA.out
      rw [List.take_length] at hnd hsz
      have hlen := fun ty => hown.len Try.underlying88 ty
      obtain ⟨m, hm⟩ : ∃ m, m = Maps.size M := ⟨_, rfl⟩
      rw [← hm] at hlen hnd hsz
      have HB := Lib.hid hbel
      have HN : Hid (decide (m < names.length) = dupB names) := Lib.hid (by
        unfold dupB
        apply decide_eq_decide.2
        rw [← hnd]
        omega)
      clear hown hhas hnd hsz hm hbel
      go_wp2_with fail
      go_ret
      exact ⟨by rw [← HN.out]; rfl, HB.out⟩
end Go.Proofs.Ytgiipkmkmomofaa.M
