/- Contracts of what the program's own table of groups looks a row up with: strings.Compare, the closure, slices.BinarySearchFunc. -/
import Derived.Test.YtmghlfhdjdlkbaaDoorPlaceRows
import Derived.Lib.Bytealg
namespace Go.Proofs.YtmghlfhdjdlkbaaDoor
open Go.RowKit

/-- Which of two texts is the lesser one. -/
def cmpS (a b : ByteArray) : Int := if ltS a b = true then -1 else if ltS b a = true then 1 else 0
theorem compareBytes_lt : ∀ (x y : List UInt8), Lib.compareBytes x y = if x < y then -1 else if y < x then 1 else 0
  | [], [] => by simp [Lib.compareBytes]
  | [], _ :: _ => by simp [Lib.compareBytes]
  | _ :: _, [] => by simp [Lib.compareBytes]
  | a :: x, b :: y => by
    unfold Lib.compareBytes
    rw [compareBytes_lt x y]
    simp only [List.cons_lt_cons_iff]
    by_cases h1 : a < b
    · simp [h1]
    · by_cases h2 : b < a
      · have h3 : a ≠ b := fun e => by subst e; exact UInt8.lt_irrefl _ h2
        simp [h1, h2, h3]
      · have h3 : a = b := UInt8.le_antisymm (UInt8.not_lt.1 h2) (UInt8.not_lt.1 h1)
        subst h3
        simp [h1]
theorem cmpS_eq (a b : ByteArray) : Lib.compareBytes a.data.toList b.data.toList = cmpS a b := by
  rw [compareBytes_lt]
  unfold cmpS
  rw [ltS_lt, ltS_lt]
  simp only [decide_eq_true_eq]
theorem cmpS_zero (a b : ByteArray) : (cmpS a b == 0) = decide (a = b) := by
  unfold cmpS
  rcases ltS_tri a b with h | h | h
  · rw [if_pos h, decide_eq_false (ltS_ne h)]; rfl
  · subst h; rw [ltS_self]; simp
  · rw [if_neg (by rw [ltS_asymm h]; decide), if_pos h, decide_eq_false (Ne.symm (ltS_ne h))]; rfl
theorem comparestr_any (a b : ByteArray) (w : World) : Calls Tryd.prog 26 #[.string a, .string b] w (fun e w' => e = .returned (.int .i64 (cmpS a b)) ∧ w = w') := by
  rw [← cmpS_eq]
  go_enter Tryd.func26, Tryd.ntmps26
  go_wp2
  rw [run_callFunc_extern Tryd.func27 (by kernel_rfl) (by kernel_rfl) (by kernel_rfl) (e := Extern.BytealgCompare.compare) (by kernel_rfl), Lib.run_compareString]
  simp only [Result.andThen]
  rw [Oper.upon_value]
  go_wp2
  go_ret
  exact ⟨rfl, rfl⟩
theorem scompare_any (a b : ByteArray) (w : World) : Calls Tryd.prog 22 #[.string a, .string b] w (fun e w' => e = .returned (.int .i64 (cmpS a b)) ∧ w = w') := by
  have HC := Lib.hid (comparestr_any a b w)
  go_enter Tryd.func22, Tryd.ntmps22
  go_wp2_with fail
  refine HC.out.mono ?_
  rintro e w2 ⟨rfl, rfl⟩
  go_wp2
  go_ret
  exact ⟨rfl, rfl⟩
theorem gfind1_any (w : World) (m : PlaceM) (p : ByteArray) :
    Calls Tryd.prog 21 #[.agg #[.string m.name, .int .i64 m.off], .string p] w (fun e w' => e = .returned (.int .i64 (cmpS m.name p)) ∧ Below w.heap.size w w') := by
  obtain ⟨mp, mo⟩ := m
  have HB := Lib.hid ((Below.refl w.heap.size w).alloc (Nat.le_refl _) (.cells #[.string mp, .int .i64 mo] 25))
  have HC := Lib.hid (scompare_any mp p)
  dsimp only
  go_enter Tryd.func21, Tryd.ntmps21
  go_wp2_with fail
  refine (HC.out _).mono ?_
  rintro e w2 ⟨rfl, rfl⟩
  go_wp2
  go_ret
  exact ⟨rfl, HB.out⟩
/-- Where a row of p stands, or would stand. -/
def StandsN (l : List PlaceM) (p : ByteArray) (k : Nat) : Prop := AheadN l p k ∧ ∀ i (h : i < l.length), k ≤ i → ltS l[i].name p = false
theorem aheadN_to {l : List PlaceM} {p : ByteArray} {h : Nat} (hs : SortedN l) (hh : h < l.length) (hp : ltS l[h].name p = true) : AheadN l p (h + 1) := by
  refine ⟨hh, fun x hx => ?_⟩
  obtain ⟨i, hi, rfl⟩ := List.getElem_of_mem hx
  rw [List.length_take] at hi
  rw [List.getElem_take]
  rcases Nat.lt_or_ge i h with h1 | h1
  · exact ltS_trans (List.pairwise_iff_getElem.1 hs i h (by omega) hh h1) hp
  · have e : i = h := by omega
    subst e
    exact hp
theorem behindN_from {l : List PlaceM} {p : ByteArray} {h : Nat} (hs : SortedN l) (hh : h < l.length) (hp : ltS l[h].name p = false) : ∀ k (hk : k < l.length), h ≤ k → ltS l[k].name p = false := by
  intro k hk hle
  rcases Nat.lt_or_ge h k with h1 | h1
  · have h2 := List.pairwise_iff_getElem.1 hs h k hh hk h1
    cases h3 : ltS l[k].name p with
    | false => rfl
    | true => rw [ltS_trans h2 h3] at hp; cases hp
  · have e : k = h := by omega
    subst e
    exact hp
set_option maxHeartbeats 1600000 in
theorem gsearch_any (w : World) (S : Nat → Prop) (A : Option Addr) (l : List PlaceM) (cap : Nat) (hs : SortedN l) (hl : RowsLie placeRep w S A l cap) (hS : ∀ b, S b → b < w.heap.size) (hfew : l.length ≤ 100) (p : ByteArray) :
    Calls Tryd.prog 20 #[.slice A l.length cap, .string p, .func (.func 21) #[] #[]] w
      (fun e w' => ∃ k : Nat, StandsN l p k ∧ e = .returned (.tuple #[.int .i64 k, .bool (decide (∃ h : k < l.length, l[k].name = p))]) ∧ Below w.heap.size w w') := by
  have HL := Lib.hid hl
  have HS := Lib.hid hS
  have HO := Lib.hid hs
  have hcl := hl.2.1
  have hcm := hl.2.2
  unfold maxLen at hcm
  clear hl hS hs
  go_enter Tryd.func20, Tryd.ntmps20
  go_wp2_with fail
  go_loopw [9, 10] (fun iv jv wr => ∃ i j : Nat, iv = .int .i64 i ∧ jv = .int .i64 j ∧ i ≤ j ∧ j ≤ l.length ∧ AheadN l p i ∧ (∀ k (h : k < l.length), j ≤ k → ltS l[k].name p = false) ∧ Below w.heap.size w wr) (fun iv jv _ => ((intOf jv) - (intOf iv)).toNat)
  case atStart => exact ⟨0, l.length, rfl, rfl, Nat.zero_le _, Nat.le_refl _, AheadN.zero l p, fun k h hk => absurd h (Nat.not_lt.2 hk), Below.refl _ _⟩
  case round =>
    obtain ⟨i, j, rfl, rfl, hij, hj, hah, hbeh, hbel⟩ := hrel
    have HB := Lib.hid hbel
    have HA := Lib.hid hah
    have HH := Lib.hid hbeh
    clear hbel hah hbeh
    by_cases hlt : i < j
    · have d1 : decide ((i : Int) < (j : Int)) = true := decide_eq_true (by omega)
      have d2 : decide (i < j) = true := decide_eq_true hlt
      obtain ⟨h, hhe⟩ : ∃ h : Nat, ((i : Int) + (j : Int)) / 2 = (h : Int) := ⟨(i + j) / 2, by omega⟩
      have hih : i ≤ h := by omega
      have hhj : h < j := by omega
      have hhl : h < l.length := by omega
      obtain ⟨b, off, rfl, hb0, _, g0, g1⟩ := PlacesLie.at_ (HL.out.below HB.out HS.out) hhl
      have HLO := Lib.hid (fun (hp : ltS l[h].name p = true) => aheadN_to HO.out hhl hp)
      have HHI := Lib.hid (fun (hp : ¬ ltS l[h].name p = true) => behindN_from HO.out hhl (by simpa using hp))
      obtain ⟨m, hm⟩ : ∃ m, l[h] = m := ⟨_, rfl⟩
      rw [hm] at g0 g1 HLO HHI
      have HC := Lib.hid (gfind1_any wr m p)
      obtain ⟨mp, mo⟩ := m
      dsimp only at g0 g1 HLO HHI HC
      clear hm
      by_cases hp : ltS mp p = true
      · have HV : Hid (cmpS mp p = -1) := Lib.hid (if_pos hp)
        rw [HV.out] at HC
        have HN := Lib.hid (HLO.out hp)
        clear HLO HHI hp
        go_wp2_with (go_at_call 21; refine HC.out.mono ?_; rintro e w2 ⟨rfl, hb2⟩; have HB2 := Lib.hid (HB.out.trans (hb2.mono HB.out.size)); clear hb2)
        go_roundw
        case rel => exact ⟨h + 1, j, by go_num, rfl, hhj, hj, HN.out, HH.out, HB2.out⟩
        case measure => simp [intOf]; omega
      · have hv : 0 ≤ cmpS mp p := by unfold cmpS; rw [if_neg hp]; split <;> decide
        obtain ⟨v, hv2⟩ : ∃ v, cmpS mp p = v := ⟨_, rfl⟩
        rw [hv2] at HC hv
        have d3 : decide (v < 0) = false := decide_eq_false (by omega)
        have HN := Lib.hid (HHI.out hp)
        clear HLO HHI hp hv2
        go_wp2_with (go_at_call 21; refine HC.out.mono ?_; rintro e w2 ⟨rfl, hb2⟩; have HB2 := Lib.hid (HB.out.trans (hb2.mono HB.out.size)); clear hb2)
        go_roundw
        case rel => exact ⟨i, h, rfl, rfl, hih, Nat.le_of_lt hhl, HA.out, HN.out, HB2.out⟩
        case measure => simp [intOf]; omega
    · obtain rfl : i = j := by omega
      have d1 : decide ((i : Int) < (i : Int)) = false := decide_eq_false (by omega)
      have HSt : Hid (StandsN l p i) := Lib.hid ⟨HA.out, HH.out⟩
      by_cases hil : i < l.length
      · have d2 : decide ((i : Int) < (l.length : Int)) = true := decide_eq_true (by omega)
        have d3 : decide (i < l.length) = true := decide_eq_true hil
        obtain ⟨b, off, rfl, hb0, _, g0, g1⟩ := PlacesLie.at_ (HL.out.below HB.out HS.out) hil
        have HE : Hid (decide (∃ h : i < l.length, l[i].name = p) = decide (l[i].name = p)) := Lib.hid (by simp [hil])
        obtain ⟨m, hm⟩ : ∃ m, l[i] = m := ⟨_, rfl⟩
        rw [hm] at g0 g1 HE
        have HC := Lib.hid (gfind1_any wr m p)
        obtain ⟨mp, mo⟩ := m
        dsimp only at g0 g1 HC HE
        have HV : Hid ((cmpS mp p == 0) = decide (mp = p)) := Lib.hid (cmpS_zero mp p)
        obtain ⟨v, hv2⟩ : ∃ v, cmpS mp p = v := ⟨_, rfl⟩
        rw [hv2] at HC HV
        clear hm hv2
        go_wp2_with (go_at_call 21; refine HC.out.mono ?_; rintro e w2 ⟨rfl, hb2⟩; have HB2 := Lib.hid (HB.out.trans (hb2.mono HB.out.size)); clear hb2)
        go_ret2
        exact ⟨i, HSt.out, by rw [HE.out, ← HV.out]; rfl, HB2.out⟩
      · have d2 : decide ((i : Int) < (l.length : Int)) = false := decide_eq_false (by omega)
        have d3 : decide (i < l.length) = false := decide_eq_false hil
        have HE : Hid (decide (∃ h : i < l.length, l[i].name = p) = false) := Lib.hid (by simp [hil])
        go_wp2_with fail
        go_ret2
        exact ⟨i, HSt.out, by rw [HE.out]; rfl, HB.out⟩
end Go.Proofs.YtmghlfhdjdlkbaaDoor
