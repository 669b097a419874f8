/- The document's parts of a row, and whether forms have a byte. -/
import Derived.Test.YtbcpcopapbgcdaaGreatDoorSW41
import Derived.Test.YtbcpcopapbgcdaaGreatDoorSW42
import Derived.Test.YtbcpcopapbgcdaaGreatDoorSW7
namespace Go.Proofs.YtbcpcopapbgcdaaGreatDoor.M
open Go.RowKit

theorem infoStr1 : (Tryz.prog.info? 9).map (fun i => (i.zero, i.size, i.bytes)) = some (some (.string ByteArray.empty), 1, 16) := by kernel_rfl

def strV (t : List UInt8) : Value := .string (strOf t)

/-- Where the parts that are read end. -/
def endOf (ts : List (List UInt8)) (k : Nat) : Nat := 1 + (ts.take k).flatten.length

theorem endOf_next (ts : List (List UInt8)) (k : Nat) (h : k < ts.length) : endOf ts (k + 1) = endOf ts k + ts[k].length := by
  unfold endOf
  rw [List.take_add_one, List.getElem?_eq_getElem h]
  simp only [Option.toList_some, List.flatten_append, List.length_append, List.flatten_cons, List.flatten_nil, List.append_nil]
  omega

theorem row_drop (ts : List (List UInt8)) (k : Nat) (h : k ≤ ts.length) : (91 :: ts.flatten ++ [93]).drop (endOf ts k) = (ts.drop k).flatten ++ [93] := by
  have e : ts.flatten = (ts.take k).flatten ++ (ts.drop k).flatten := by rw [← List.flatten_append, List.take_append_drop]
  unfold endOf
  rw [List.cons_append, Nat.add_comm, List.drop_succ_cons, e, List.append_assoc, List.drop_left]

theorem endOf_le (ts : List (List UInt8)) (k : Nat) (h : k ≤ ts.length) : endOf ts k + 1 ≤ (91 :: ts.flatten ++ [93]).length := by
  have e : ts.flatten = (ts.take k).flatten ++ (ts.drop k).flatten := by rw [← List.flatten_append, List.take_append_drop]
  unfold endOf
  rw [e]
  simp only [List.length_append, List.length_cons, List.length_nil]
  omega

set_option maxRecDepth 20000 in
set_option maxHeartbeats 1600000 in
theorem rows_any (s : ByteArray) (d : Nat) (ts : List (List UInt8)) (l : List Sh) (w : World) (hs : s.size ≤ 64) (ht : s.data.toList = 91 :: ts.flatten ++ [93]) (hf : Fits d ts l) (hd : d ≤ 9) :
    Calls Tryz.prog 130 #[.string s] w fun e w' => ∃ v, e = .returned v ∧ Below w.heap.size w w' ∧ w'.ownsRow w.heap.size 9 1 v ts.length (ts.map strV) := by
  have HT := Lib.hid ht
  have HF := Lib.hid hf
  have hsz : s.data.toList.length = s.size := by simp
  have hle := fun k h => endOf_le ts k h
  rw [← ht, hsz] at hle
  have HLE := Lib.hid hle
  have HSZ := Lib.hid hsz
  clear ht hf hle hsz
  go_enter Tryz.func130, Tryz.ntmps130
  go_wp2_with fail
  go_loopw [3, 4] (fun v i wr => ∃ (k : Nat), i = .int .i64 (endOf ts k : Nat) ∧ k ≤ ts.length ∧ Below w.heap.size w wr ∧ wr.ownsRow w.heap.size 9 1 v k ((ts.take k).map strV)) (fun _ i _ => s.size - (intOf i).toNat)
  case atStart => exact ⟨0, rfl, Nat.zero_le _, Below.refl _ _, World.ownsRow_nil _ _ _ _⟩
  case round =>
    obtain ⟨k, rfl, hk, hB, hown⟩ := hrel
    have hle := HLE.out k hk
    have hget : s.data.toList.drop (endOf ts k) = s[endOf ts k] :: s.data.toList.drop (endOf ts k + 1) := drop_cons s _ hle
    have hdr := row_drop ts k hk
    rw [← HT.out, hget] at hdr
    have HD := Lib.hid hdr
    have HG := Lib.hid hget
    clear hdr hget
    by_cases hk2 : k < ts.length
    · have hkl : k < l.length := by rw [← HF.out.length.1]; exact hk2
      have hE : Exact d ts[k] l[k] := HF.out.get k hk2 hkl
      obtain ⟨c, t', hc, hc93⟩ := hE.head
      have hdk : ts.drop k = ts[k] :: ts.drop (k + 1) := List.drop_eq_getElem_cons hk2
      have hch : s[endOf ts k] = c := by
        have := HD.out
        rw [hdk, List.flatten_cons, hc, List.cons_append, List.cons_append] at this
        exact (List.cons.inj this).1
      have hp : pShape 9 (s.data.toList.drop (endOf ts k)) = some (l[k], (ts.drop (k + 1)).flatten ++ [93]) := by
        rw [HG.out, HD.out, hdk, List.flatten_cons, List.append_assoc]
        exact (hE.ups hd) _
      have hne : ((s[endOf ts k].toNat : Int) != 93) = true := by
        have e := byte_lit s[endOf ts k] 93 (by decide)
        simp only [Int.cast_ofNat_Int] at e
        rw [bne, e, decide_eq_false (by rw [hch]; exact hc93)]
        rfl
      have hrow := row_drop ts (k + 1) hk2
      rw [← HT.out] at hrow
      have hle2 := HLE.out (k + 1) hk2
      have hnx := endOf_next ts k hk2
      have hext : s.extract (endOf ts k) (endOf ts (k + 1)) = strOf ts[k] := by
        have h1 : (s.extract (endOf ts k) (endOf ts (k + 1))).data.toList = ts[k] := by
          rw [ByteArray.data_extract, Array.toList_extract, List.extract_eq_take_drop, HG.out, HD.out, hdk, hnx, Nat.add_sub_cancel_left, List.flatten_cons, List.append_assoc, List.take_left]
        rw [← strOf_data (s.extract (endOf ts k) (endOf ts (k + 1))), h1]
      have hE9 := ends 9 s (endOf ts k) (endOf ts k : Nat) 0 wr rfl hs (by omega) rfl (by omega)
      rw [hp] at hE9
      have hlt9 : endOf ts k < endOf ts (k + 1) := by rw [hnx, hc]; simp
      have HE9 := Lib.hid hE9
      have HX := Lib.hid hext
      have HR := Lib.hid hrow
      have HNX := Lib.hid hnx
      clear hE hc hdk hch hp hE9 hext hrow hnx hc93
      obtain ⟨ip, hip, hip0, hip1, hip2⟩ := info_parts infoStr1
      go_wp2_with fail
      refine HE9.out.mono ?_
      rintro e w1 ⟨rfl, k2, rfl, hk3, hr2⟩
      replace hr2 : (ts.drop (k + 1)).flatten ++ [93] = s.data.toList.drop k2 := hr2
      obtain rfl : k2 = endOf ts (k + 1) := by
        rw [← HR.out] at hr2
        have := congrArg List.length hr2
        rw [List.length_drop, List.length_drop, HSZ.out] at this
        omega
      have hlt1 : endOf ts k ≤ endOf ts (k + 1) := by omega
      clear hr2
      go_wp2_with (at_builtin; go_loud (refine wpList_append_own2 _ rfl _ _ 43 rfl w.heap.size 9 ip (.string ByteArray.empty) 1 16 Tryz.underlying43 hip hip0 hip1 hip2 rfl (by decide) _ _ _ rfl (hown.alloc _) ⟨wr.heap.size, 0, none⟩ 1 1 [.string (s.extract (endOf ts k) (endOf ts (k + 1)))] rfl rfl ?c1 ?c2 ?c3 ?c4 ?c5 ?_))
      case c1 => intro j u hj; cases j with
        | zero => simp at hj; subst hj; exact cell_of_row _ wr.heap.size 0 _ _ _ (heap_new _ _ _ rfl)
        | succ j => simp at hj
      case c2 => intro u hu; simp at hu; rw [hu]; rfl
      case c3 => unfold maxLen; have := HF.out.length.2; have := HLE.out ts.length (Nat.le_refl _); have := HSZ.out; have h3 := congrArg List.length HT.out; simp only [List.length_append, List.length_cons, List.length_nil] at h3; omega
      case c4 => have := HF.out.length.2; have h3 := congrArg List.length HT.out; have := HSZ.out; simp only [List.length_append, List.length_cons, List.length_nil] at h3; omega
      case c5 => have := hB.size; simp; omega
      intro v' w4 hown2 hg _ hwhere
      have HQ : Hid (Below w.heap.size w w4 ∧ w4.ownsRow w.heap.size 9 1 v' (k + 1) ((ts.take (k + 1)).map strV)) := Lib.hid (by
        refine ⟨(hB.alloc hB.size _).grown hg (by have := hB.size; simp; omega) (fun j hj => (hown.lt j hj).1), ?_⟩
        rw [List.take_add_one, List.getElem?_eq_getElem hk2, List.map_append]
        rw [HX.out] at hown2
        simp only [List.map_take, Option.toList_some, List.map_cons, List.map_nil]
        exact hown2)
      clear hown2 hg hwhere
      go_wp2_with fail
      go_roundw
      case rel => exact ⟨k + 1, rfl, hk2, HQ.out.1, HQ.out.2⟩
      case measure => simp [intOf]; omega
    · obtain rfl : k = ts.length := by omega
      have hne : ((s[endOf ts ts.length].toNat : Int) != 93) = false := by
        have := HD.out
        rw [List.drop_length] at this
        have h9 : s[endOf ts ts.length] = 93 := (List.cons.inj this).1
        rw [h9]; rfl
      go_wp2_with fail
      go_ret
      rw [List.take_length] at hown
      exact ⟨_, rfl, hB, hown⟩

theorem strOf_size (t : List UInt8) : (strOf t).size = t.length := by simp [strOf, ByteArray.size]

theorem flatten_get : ∀ (ts : List (List UInt8)) (i : Nat) (h : i < ts.length), ts[i].length ≤ ts.flatten.length
  | t :: ts, 0, _ => by simp
  | t :: ts, i + 1, h => by
    have := flatten_get ts i (by simpa using h)
    rw [List.flatten_cons, List.length_append]
    simp only [List.getElem_cons_succ]
    omega

theorem solids_take : ∀ (l : List Sh) (k : Nat) (h : k < l.length), solids (l.take (k + 1)) = (solids (l.take k) || solid l[k])
  | s :: l, 0, _ => by simp [solids]
  | s :: l, k + 1, h => by
    have := solids_take l k (by simpa using h)
    simp only [List.take_succ_cons, solids, List.getElem_cons_succ, this, Bool.or_assoc]

theorem solids_of : ∀ (l : List Sh) (k : Nat) (h : k < l.length), solid l[k] = true → solids l = true
  | s :: l, 0, _, hs => by simp only [List.getElem_cons_zero] at hs; simp [solids, hs]
  | s :: l, k + 1, h, hs => by
    have := solids_of l k (by simpa using h) (by simpa using hs)
    simp [solids, this]

/-- A string that stands at a place of an owned row of strings. -/
theorem owned_str {w : World} {base n : Nat} {v : Value} {ts : List (List UInt8)} (h : w.ownsRow base 9 1 v n (ts.map strV)) (hn : n = ts.length) (k : Nat) (hk : k < ts.length) :
    ∃ b c, v = .slice (some ⟨b, 0, none⟩) n c ∧ base ≤ b ∧ b < w.heap.size ∧ w.cell? ⟨b, 0 + k, none⟩ = some (.string (strOf ts[k])) := by
  have h' := h
  obtain ⟨_, ⟨rfl, h0⟩ | ⟨g, cap, cur, hv, hg, _⟩⟩ := h
  · omega
  · have hlt := h'.lt g (by rw [hv]; rfl)
    have hc := h'.cells (g := g) (by rw [hv]; rfl) k (strV ts[k]) (by simp [hk])
    refine ⟨g, cap, hv, hg, hlt.2, ?_⟩
    rw [Nat.zero_add]
    cases k <;> simpa [Addr.add, strV] using hc

def SomeSaid (n : Nat) : Prop := ∀ (s : ByteArray) (d : Nat) (t : List UInt8) (sh : Sh) (w : World), s.size ≤ n → s.size ≤ 64 → s.data.toList = t → Exact d t sh → d ≤ 9 →
  Calls Tryz.prog 132 #[.string s] w fun e w' => e = .returned (.bool (solid sh)) ∧ Below w.heap.size w w'

set_option maxRecDepth 20000 in
set_option maxHeartbeats 1600000 in
theorem some_of {n : Nat} (ih : ∀ m, m < n → SomeSaid m) : SomeSaid n := by
  rintro s d t sh w hn hs rfl hx hd
  obtain ⟨c, t', hc, hl⟩ := hx.leaf
  have hsz : s.data.toList.length = s.size := by simp
  have h0 : 0 < s.size := by rw [← hsz, hc]; simp
  have hget : s[0] = c := by
    have := drop_cons s 0 h0
    rw [List.drop_zero, hc] at this
    exact (List.cons.inj this).1.symm
  have e91 := byte_lit s[0] 91 (by decide)
  simp only [Int.cast_ofNat_Int] at e91
  cases sh with
  | num =>
    have h1 : ((s[0].toNat : Int) != 91) = true := by rw [bne, e91, decide_eq_false (by rw [hget, hl.1]; decide)]; rfl
    clear hc hsz hget e91 hl
    go_enter Tryz.func132, Tryz.ntmps132
    go_wp2_with fail
    go_ret
    exact ⟨rfl, Below.refl _ _⟩
  | blob =>
    have h1 : ((s[0].toNat : Int) != 91) = true := by rw [bne, e91, decide_eq_false (by rw [hget, hl.1]; decide)]; rfl
    clear hc hsz hget e91 hl
    go_enter Tryz.func132, Tryz.ntmps132
    go_wp2_with fail
    go_ret
    exact ⟨rfl, Below.refl _ _⟩
  | list s' =>
    have h1 : ((s[0].toNat : Int) != 91) = true := by rw [bne, e91, decide_eq_false (by rw [hget, show c = 42 from hl]; decide)]; rfl
    clear hc hsz hget e91 hl
    go_enter Tryz.func132, Tryz.ntmps132
    go_wp2_with fail
    go_ret
    exact ⟨rfl, Below.refl _ _⟩
  | row l =>
    have h1 : ((s[0].toNat : Int) != 91) = false := by rw [bne, e91, decide_eq_true (by rw [hget, show c = 91 from hl]; decide)]; rfl
    obtain ⟨e, ts, rfl, ht, hf⟩ := hx.parts
    have hlen := congrArg List.length ht
    simp only [List.length_append, List.length_cons, List.length_nil] at hlen
    have HROWS := Lib.hid (fun w => rows_any s e ts l w hs ht hf (by omega))
    have HF := Lib.hid hf
    have HSUB : Hid (∀ k (hk : k < ts.length) (hk2 : k < l.length) w, Calls Tryz.prog 132 #[.string (strOf ts[k])] w fun e w' => e = .returned (.bool (solid l[k])) ∧ Below w.heap.size w w') := Lib.hid (by
      intro k hk hk2 w
      have h2 := flatten_get ts k hk
      exact ih ts[k].length (by omega) (strOf ts[k]) e ts[k] l[k] w (by rw [strOf_size]; omega) (by rw [strOf_size]; omega) (by simp [strOf]) (hf.get k hk hk2) (by omega))
    have HTL : Hid (ts.length = l.length) := Lib.hid hf.length.1
    have hts : ts.length ≤ 64 := by have := hf.length.2; omega
    clear hc hsz hget e91 hl hx ht hf hlen ih
    go_enter Tryz.func132, Tryz.ntmps132
    go_wp2_with fail
    refine (HROWS.out _).mono ?_
    rintro e1 w1 ⟨v, rfl, hB, hown⟩
    obtain ⟨a, cp, rfl⟩ := owned_slice hown
    have HO := Lib.hid hown
    clear hown
    go_wp2_with fail
    go_loopw [4] (fun i wr => ∃ k : Nat, i = .int .i64 (k : Int) ∧ k ≤ ts.length ∧ Below w1.heap.size w1 wr ∧ solids (l.take k) = false) (fun i _ => ts.length - (intOf i).toNat)
    case atStart => exact ⟨0, rfl, Nat.zero_le _, Below.refl _ _, rfl⟩
    case round =>
      obtain ⟨k, rfl, hk, hB2, hso⟩ := hrel
      have HSO := Lib.hid hso
      clear hso
      by_cases hk2 : k < ts.length
      · have hkl : k < l.length := by rw [← HTL.out]; exact hk2
        obtain ⟨b, c', hv, hb1, hb2, hcell⟩ := owned_str HO.out rfl k hk2
        cases hv
        have hcell2 : wr.cell? ⟨b, 0 + k, none⟩ = some (.string (strOf ts[k])) := (hB2.cell (p := ⟨b, 0 + k, none⟩) hb2).trans hcell
        rw [Nat.zero_add] at hcell2
        have hkk : (k : Int) < (ts.length : Int) := by omega
        clear hcell
        go_wp2_with fail
        refine (HSUB.out k hk2 hkl _).mono ?_
        rintro e2 w2 ⟨rfl, hB3⟩
        have hB4 : Below w1.heap.size w1 w2 := hB2.trans (hB3.mono hB2.size)
        cases hsk : solid l[k] with
        | true =>
          have HQ : Hid (solids l = true) := Lib.hid (solids_of l k hkl hsk)
          clear hsk
          go_wp2_with fail
          go_ret
          refine ⟨?_, hB.trans (hB4.mono hB.size)⟩
          rw [solid, HQ.out]
          rfl
        | false =>
          have HQ : Hid (solids (l.take (k + 1)) = false) := Lib.hid (by rw [solids_take l k hkl, HSO.out, hsk]; rfl)
          clear hsk
          go_wp2_with fail
          go_roundw
          case rel => exact ⟨k + 1, by go_num, by omega, hB4, HQ.out⟩
          case measure => simp [intOf]; omega
      · have hkk : ¬ (k : Int) < (ts.length : Int) := by omega
        go_wp2_with fail
        go_ret
        refine ⟨?_, hB.trans (hB2.mono hB.size)⟩
        have := HSO.out
        rw [List.take_of_length_le (by rw [← HTL.out]; omega)] at this
        rw [solid, this]
        rfl

theorem Some_sized : ∀ (n : Nat), SomeSaid n := fun n => Nat.strongRecOn n fun _ ih => some_of ih

theorem Some_any (s : ByteArray) (sh : Sh) (w : World) (h : shape s.data.toList = some sh) :
    Calls Tryz.prog 132 #[.string s] w fun e w' => e = .returned (.bool (solid sh)) ∧ Below w.heap.size w w' := by
  obtain ⟨h1, h2⟩ := exact_shape h
  exact Some_sized s.size s 9 _ sh w (Nat.le_refl _) (by simpa using h2) rfl h1 (by omega)
end Go.Proofs.YtbcpcopapbgcdaaGreatDoor.M
