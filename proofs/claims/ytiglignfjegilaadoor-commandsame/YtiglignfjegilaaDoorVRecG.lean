/- Contracts of the program's reader of records (number, take, flag, text). · Plain mathematics: the program's reader, step by step, comes to what the document says of the record that bytes begin with. No program is spoken of here. · A contract of the program's record.Get. -/
import Derived.Test.YtiglignfjegilaaDoorV1
import Derived.Test.YtiglignfjegilaaDoorRecWords
import Derived.Laws.Rows
import Derived.Test.YtiglignfjegilaaDoorVRight
import Derived.Test.YtiglignfjegilaaDoorRecObj
namespace Go.Proofs.YtiglignfjegilaaDoor
open Go.RowKit

/-! ### The reader as plain functions: what is taken, what is left, the error -/
def numS (xs : List Int) (e most : Int) : Int × List Int × Int :=
  if e ≠ 0 then (0, xs, e)
  else if (getR xs).2.2 ≠ 0 then (0, xs, (getR xs).2.2)
  else if most < (getR xs).1 then (0, xs, 2)
  else ((getR xs).1, xs.drop (getR xs).2.1.toNat, 0)
def takeS (xs : List Int) (e : Int) (n : Nat) : List Int × List Int × Int :=
  if e ≠ 0 then ([], xs, e)
  else if xs.length < n then ([], xs, 4)
  else (xs.take n, xs.drop n, 0)
def flagS (xs : List Int) (e : Int) : Bool × List Int × Int :=
  if (takeS xs e 1).2.2 ≠ 0 then (false, (takeS xs e 1).2)
  else if 1 < (takeS xs e 1).1.getD 0 0 then (false, (takeS xs e 1).2.1, 2)
  else ((takeS xs e 1).1.getD 0 0 == 1, (takeS xs e 1).2)
def textS (xs : List Int) (e most : Int) : ByteArray × List Int × Int :=
  (textOf (takeS (numS xs e most).2.1 (numS xs e most).2.2 (numS xs e most).1.toNat).1, (takeS (numS xs e most).2.1 (numS xs e most).2.2 (numS xs e most).1.toNat).2)

/-! ### The reader in memory -/
/-- Block g is a reader of which xs is left, with the error e; what is left lies below g. -/
def Rd (w : World) (g : Nat) (xs : List Int) (e : Int) : Prop :=
  ∃ A c, w.heap[g]? = some (.cells #[.slice A xs.length c, .int .i64 e] 94 (0, 0)) ∧ xs.length ≤ c ∧ c ≤ maxLen ∧ Lies .u8 w g A xs
/-- A call of a reader's method that answers v. -/
def Reads (w : World) (g : Nat) (v : Value) (p : List Int × Int) (e : Ending) (w' : World) : Prop := e = .returned v ∧ Rd w' g p.1 p.2 ∧ w.grownBy w' (some g)
theorem grown_refl (w : World) (row : Option Nat) : w.grownBy w row := ⟨rfl, rfl, rfl, Nat.le_refl _, fun _ _ _ => rfl⟩
theorem grown_set (w : World) (g j : Nat) (v : Value) : w.grownBy (w.setCell ⟨g, j, none⟩ v) (some g) :=
  ⟨rfl, rfl, rfl, by simp, fun k _ hk => heap_setCell_other w _ k v (fun h => hk (by rw [h]))⟩
theorem grown_trans {a b c : World} {row : Option Nat} (h : a.grownBy b row) (k : b.grownBy c row) : a.grownBy c row :=
  ⟨k.os.trans h.os, k.tape.trans h.tape, k.output.trans h.output, Nat.le_trans h.size k.size, fun i hi hn => (k.block i (Nat.lt_of_lt_of_le hi h.size) hn).trans (h.block i hi hn)⟩
theorem heap_lt {w : World} {g : Nat} {o : Obj} (h : w.heap[g]? = some o) : g < w.heap.size := (Array.getElem?_eq_some_iff.1 h).1
theorem Lies.aside {k : IntKind} {w w' : World} {g : Nat} {A : Option Addr} {xs : List Int} (h : Lies k w g A xs) (hg : w.grownBy w' (some g)) (hlt : g < w.heap.size) : Lies k w' g A xs :=
  h.keep fun b o hb => World.cell?_of_block (a := ⟨b, o, none⟩) (hg.block b (by omega) (by simp; omega))
theorem Rd.lt {w : World} {g : Nat} {xs : List Int} {e : Int} (h : Rd w g xs e) : g < w.heap.size := by
  obtain ⟨A, c, h1, _⟩ := h
  exact heap_lt h1
/-- The error is written. -/
theorem rd_err {w : World} {g : Nat} {A : Option Addr} {c : Nat} {xs : List Int} {e e' : Int} (h : w.heap[g]? = some (.cells #[.slice A xs.length c, .int .i64 e] 94 (0, 0))) (hc : xs.length ≤ c) (hm : c ≤ maxLen) (hl : Lies .u8 w g A xs) :
    Rd (w.setCell ⟨g, 1, none⟩ (.int .i64 e')) g xs e' := by
  refine ⟨A, c, ?_, hc, hm, hl.aside (grown_set _ _ _ _) (heap_lt h)⟩
  rw [heap_setCell_same w g 1 _ _ _ h]
  simp
/-- What is left is written. -/
theorem rd_rest {w : World} {g : Nat} {A A' : Option Addr} {c c' : Nat} {xs ys : List Int} {e : Int} (h : w.heap[g]? = some (.cells #[.slice A xs.length c, .int .i64 e] 94 (0, 0))) (n : Nat) (hn : n = ys.length) (hc : ys.length ≤ c') (hm : c' ≤ maxLen) (hl : Lies .u8 w g A' ys) :
    Rd (w.setCell ⟨g, 0, none⟩ (.slice A' n c')) g ys e := by
  subst hn
  refine ⟨A', c', ?_, hc, hm, hl.aside (grown_set _ _ _ _) (heap_lt h)⟩
  rw [heap_setCell_same w g 0 _ _ _ h]
  simp
theorem rd_cells {w : World} {g : Nat} {v u : Value} (h : w.heap[g]? = some (.cells #[v, u] 94 (0, 0))) :
    w.cell? ⟨g, 0, none⟩ = some v ∧ w.cell? ⟨g, 1, none⟩ = some u ∧ w.frozen? ⟨g, 0, none⟩ = false ∧ w.frozen? ⟨g, 1, none⟩ = false :=
  ⟨by simp [World.cell?, h], by simp [World.cell?, h], by simp [World.frozen?, h], by simp [World.frozen?, h]⟩

set_option maxRecDepth 100000 in
set_option maxHeartbeats 1600000 in
theorem vnumber_any (g : Nat) (xs : List Int) (e most : Int) (w : World) (hr : Rd w g xs e) (hby : IsBytes xs) :
    Calls Tryd.prog 49 #[.pointer (some ⟨g, 0, none⟩), .int .u64 most] w (Reads w g (.int .u64 (numS xs e most).1) (numS xs e most).2) := by
  obtain ⟨A, c, hg, hc, hcm, hl⟩ := hr
  obtain ⟨c0, c1, f0, f1⟩ := rd_cells hg
  have HG := Lib.hid hg
  have HL := Lib.hid hl
  have hlt := heap_lt hg
  obtain ⟨p, hp⟩ : ∃ p, numS xs e most = p := ⟨_, rfl⟩
  rw [hp]
  have HP := Lib.hid hp
  have HCM := Lib.hid hcm
  unfold maxLen at hcm
  have HGET := Lib.hid (get_any A xs c w (hl.more (by omega)) hby)
  clear hg hp hl
  by_cases he : e = 0
  · subst he
    obtain ⟨x, k, e2, hgr⟩ : ∃ x k e, getR xs = (x, k, e) := ⟨_, _, _, rfl⟩
    rw [hgr] at HGET
    have HGR := Lib.hid hgr
    clear hgr
    by_cases he2 : e2 = 0
    · subst he2
      obtain ⟨n, m, rfl, rfl, hm, hm2, hn⟩ := getR_nat hby HGR.out
      by_cases hbig : most < (n : Int)
      · have HF := Lib.hid (show p = (0, xs, 2) by
          rw [← HP.out]
          unfold numS
          rw [HGR.out]
          simp only
          rw [if_neg (by omega), if_neg (by omega), if_pos hbig])
        go_enter Tryd.func49, Tryd.ntmps49
        go_wp2_with fail
        refine HGET.out.mono ?_
        rintro e w1 ⟨rfl, rfl⟩
        go_wp2
        go_ret
        rw [HF.out]
        exact ⟨rfl, rd_err HG.out hc HCM.out HL.out, grown_set _ _ _ _⟩
      · have HF := Lib.hid (show p = ((n : Int), xs.drop m, 0) by
          rw [← HP.out]
          unfold numS
          rw [HGR.out]
          simp only [Int.toNat_natCast]
          rw [if_neg (by omega), if_neg (by omega), if_neg hbig])
        have HC := Lib.hid (HL.out.cut (n := m) hc)
        have hmz : (m : Int) ≤ (xs.length : Int) := by omega
        by_cases hce : c = m
        · have hc' := HC.out
          rw [if_pos hce] at hc'
          have HC2 := Lib.hid hc'
          subst hce
          clear hc' HC
          go_enter Tryd.func49, Tryd.ntmps49
          go_wp2_with fail
          refine HGET.out.mono ?_
          rintro e w1 ⟨rfl, rfl⟩
          go_wp2
          go_ret
          rw [HF.out]
          exact ⟨rfl, rd_rest HG.out _ (by simp only [List.length_drop]; try omega) (by rw [List.length_drop]; omega) (by unfold maxLen; omega) HC2.out, grown_set _ _ _ _⟩
        · have hc' := HC.out
          rw [if_neg hce] at hc'
          have HC2 := Lib.hid hc'
          clear hc' HC
          go_enter Tryd.func49, Tryd.ntmps49
          go_wp2_with fail
          refine HGET.out.mono ?_
          rintro e w1 ⟨rfl, rfl⟩
          go_wp2
          go_ret
          rw [HF.out]
          exact ⟨rfl, rd_rest HG.out _ (by simp only [List.length_drop]; try omega) (by rw [List.length_drop]; omega) (by unfold maxLen; omega) HC2.out, grown_set _ _ _ _⟩
    · have HF := Lib.hid (show p = (0, xs, e2) by
        rw [← HP.out]
        unfold numS
        rw [HGR.out]
        simp only
        rw [if_neg (by omega), if_pos he2])
      have heb : (e2 != 0) = true := by simpa using he2
      have hec : (e2 == 0) = false := by simpa using he2
      go_enter Tryd.func49, Tryd.ntmps49
      go_wp2_with fail
      refine HGET.out.mono ?_
      rintro e w1 ⟨rfl, rfl⟩
      go_wp2
      go_ret
      rw [HF.out]
      exact ⟨rfl, rd_err HG.out hc HCM.out HL.out, grown_set _ _ _ _⟩
  · have HF := Lib.hid (show p = (0, xs, e) by
      rw [← HP.out]
      unfold numS
      rw [if_pos he])
    have heb : (e != 0) = true := by simpa using he
    go_enter Tryd.func49, Tryd.ntmps49
    go_wp2
    go_ret
    rw [HF.out]
    exact ⟨rfl, ⟨A, c, HG.out, hc, HCM.out, HL.out⟩, grown_refl _ _⟩

/-- What 'take' answers. -/
def Takes (w : World) (g : Nat) (ys : List Int) (p : List Int × Int) (e : Ending) (w' : World) : Prop :=
  ∃ A c, e = .returned (.slice A ys.length c) ∧ ys.length ≤ c ∧ c ≤ maxLen ∧ Lies .u8 w' g A ys ∧ Rd w' g p.1 p.2 ∧ w.grownBy w' (some g)

set_option maxRecDepth 100000 in
set_option maxHeartbeats 1600000 in
theorem vtake_any (g : Nat) (xs : List Int) (e : Int) (n : Nat) (w : World) (hr : Rd w g xs e) (hn : n ≤ 1000000000000) :
    Calls Tryd.prog 52 #[.pointer (some ⟨g, 0, none⟩), .int .i64 (n : Int)] w (Takes w g (takeS xs e n).1 (takeS xs e n).2) := by
  obtain ⟨A, c, hg, hc, hcm, hl⟩ := hr
  obtain ⟨c0, c1, f0, f1⟩ := rd_cells hg
  have HG := Lib.hid hg
  have HL := Lib.hid hl
  have hlt := heap_lt hg
  obtain ⟨p, hp⟩ : ∃ p, takeS xs e n = p := ⟨_, rfl⟩
  rw [hp]
  have HP := Lib.hid hp
  have HCM := Lib.hid hcm
  unfold maxLen at hcm
  clear hg hp hl
  by_cases he : e = 0
  · subst he
    by_cases hsh : (xs.length : Int) < (n : Int)
    · have HF := Lib.hid (show p = ([], xs, 4) by
        rw [← HP.out]
        unfold takeS
        rw [if_neg (by omega), if_pos (by omega)])
      go_enter Tryd.func52, Tryd.ntmps52
      go_wp2
      go_ret
      rw [HF.out]
      exact ⟨none, 0, rfl, by simp, by simp [maxLen], Lies.nil, rd_err HG.out hc HCM.out HL.out, grown_set _ _ _ _⟩
    · have HF := Lib.hid (show p = (xs.take n, xs.drop n, 0) by
        rw [← HP.out]
        unfold takeS
        rw [if_neg (by omega), if_neg (by omega)])
      have HC := Lib.hid (HL.out.cut (n := n) hc)
      have hnz : (n : Int) ≤ (xs.length : Int) := by omega
      have htl : (xs.take n).length = n := by rw [List.length_take]; omega
      have HTL := Lib.hid htl
      have HT := Lib.hid (fun v => (HL.out.take n).aside (grown_set w g 0 v) hlt)
      clear htl
      by_cases hce : c = n
      · have hc' := HC.out
        rw [if_pos hce] at hc'
        have HC2 := Lib.hid hc'
        subst hce
        clear hc' HC
        go_enter Tryd.func52, Tryd.ntmps52
        go_wp2
        go_ret
        rw [HF.out]
        exact ⟨A, c, by rw [HTL.out]; rfl, by rw [HTL.out]; omega, HCM.out, HT.out _, rd_rest HG.out _ (by simp only [List.length_drop]; try omega) (by rw [List.length_drop]; omega) (by unfold maxLen; omega) HC2.out, grown_set _ _ _ _⟩
      · have hc' := HC.out
        rw [if_neg hce] at hc'
        have HC2 := Lib.hid hc'
        clear hc' HC
        go_enter Tryd.func52, Tryd.ntmps52
        go_wp2
        go_ret
        rw [HF.out]
        exact ⟨A, c, by rw [HTL.out]; rfl, by rw [HTL.out]; omega, HCM.out, HT.out _, rd_rest HG.out _ (by simp only [List.length_drop]; try omega) (by rw [List.length_drop]; omega) (by unfold maxLen; omega) HC2.out, grown_set _ _ _ _⟩
  · have HF := Lib.hid (show p = ([], xs, e) by
      rw [← HP.out]
      unfold takeS
      rw [if_pos he])
    have heb : (e != 0) = true := by simpa using he
    go_enter Tryd.func52, Tryd.ntmps52
    go_wp2
    go_ret
    rw [HF.out]
    exact ⟨none, 0, rfl, by simp, by simp [maxLen], Lies.nil, ⟨A, c, HG.out, hc, HCM.out, HL.out⟩, grown_refl _ _⟩

set_option maxRecDepth 100000 in
set_option maxHeartbeats 1600000 in
theorem vflag_any (g : Nat) (xs : List Int) (e : Int) (w : World) (hr : Rd w g xs e) :
    Calls Tryd.prog 50 #[.pointer (some ⟨g, 0, none⟩)] w (Reads w g (.bool (flagS xs e).1) (flagS xs e).2) := by
  have HTK := Lib.hid (vtake_any g xs e 1 w hr (by omega))
  obtain ⟨p, hp⟩ : ∃ p, flagS xs e = p := ⟨_, rfl⟩
  rw [hp]
  obtain ⟨ys, rest, e1, ht⟩ : ∃ a b c, takeS xs e 1 = (a, b, c) := ⟨_, _, _, rfl⟩
  unfold flagS at hp
  rw [ht] at hp HTK
  simp only at hp HTK
  have hyl : e1 = 0 → ys.length = 1 := by
    unfold takeS at ht
    intro h0
    split at ht
    · rename_i hne; injection ht with _ h2; injection h2 with _ h3; omega
    · split at ht
      · injection ht with _ h2; injection h2 with _ h3; omega
      · injection ht with h2 _; rw [← h2, List.length_take]; omega
  have HYL := Lib.hid hyl
  have HP := Lib.hid hp
  clear hp ht hr hyl
  go_enter Tryd.func50, Tryd.ntmps50
  go_wp2_with fail
  refine HTK.out.mono ?_
  rintro en w1 ⟨A, c, rfl, hc, hcm, hl, ⟨A1, d1, hg, hd, hdm, hl1⟩, hgr⟩
  obtain ⟨c0, c1, f0, f1⟩ := rd_cells hg
  have HG := Lib.hid hg
  have HL1 := Lib.hid hl1
  have HGR := Lib.hid hgr
  have HDM := Lib.hid hdm
  clear HTK hg hl1 hgr hdm hcm
  by_cases he : e1 = 0
  · subst he
    have hy := HYL.out rfl
    obtain ⟨q, rfl⟩ : ∃ q, ys = [q] := by
      match ys, hy with
      | [q], _ => exact ⟨q, rfl⟩
    obtain ⟨b, off, rfl, hbl, hcell⟩ := hl.at_ (j := 0) (by simp)
    simp only [List.getElem_cons_zero, Nat.add_zero] at hcell
    have hpp := HP.out
    simp only [ne_eq, not_true_eq_false, if_false, List.getD_cons_zero] at hpp
    clear HYL hl hy HP
    simp only [List.length_cons, List.length_nil, Nat.zero_add] at hc ⊢
    by_cases hq : 1 < q
    · rw [if_pos hq] at hpp
      have HPP := Lib.hid hpp
      clear hpp
      go_wp2
      go_ret
      rw [← HPP.out]
      exact ⟨rfl, rd_err HG.out hd HDM.out HL1.out, grown_trans HGR.out (grown_set _ _ _ _)⟩
    · rw [if_neg hq] at hpp
      have HPP := Lib.hid hpp
      clear hpp
      go_wp2
      go_ret
      rw [← HPP.out]
      exact ⟨rfl, ⟨A1, d1, HG.out, hd, HDM.out, HL1.out⟩, HGR.out⟩
  · have hpp := HP.out
    rw [if_pos he] at hpp
    have HPP := Lib.hid hpp
    have heb : (e1 != 0) = true := by simpa using he
    clear hpp HP HYL
    go_wp2
    go_ret
    rw [← HPP.out]
    exact ⟨rfl, ⟨A1, d1, HG.out, hd, HDM.out, HL1.out⟩, HGR.out⟩

theorem numS_range (xs : List Int) (e most : Int) (hby : IsBytes xs) (hm0 : 0 ≤ most) : 0 ≤ (numS xs e most).1 ∧ (numS xs e most).1 ≤ most := by
  unfold numS
  split
  · exact ⟨Int.le_refl _, hm0⟩
  · split
    · exact ⟨Int.le_refl _, hm0⟩
    · rename_i h2
      split
      · exact ⟨Int.le_refl _, hm0⟩
      · rename_i h3
        obtain ⟨n, m, h, _⟩ := getR_nat (x := (getR xs).1) (k := (getR xs).2.1) hby (by
          have : (getR xs).2.2 = 0 := by omega
          rw [← this])
        simp only
        omega
theorem numS_bytes (xs : List Int) (e most : Int) (hby : IsBytes xs) : IsBytes (numS xs e most).2.1 := by
  unfold numS
  split
  · exact hby
  · split
    · exact hby
    · split
      · exact hby
      · exact fun x hx => hby x (List.mem_of_mem_drop hx)
theorem takeS_bytes (xs : List Int) (e : Int) (n : Nat) (hby : IsBytes xs) : IsBytes (takeS xs e n).2.1 := by
  unfold takeS
  split
  · exact hby
  · split
    · exact hby
    · exact fun x hx => hby x (List.mem_of_mem_drop hx)
theorem flagS_bytes (xs : List Int) (e : Int) (hby : IsBytes xs) : IsBytes (flagS xs e).2.1 := by
  unfold flagS
  split
  · exact takeS_bytes _ _ _ hby
  · split
    · exact takeS_bytes _ _ _ hby
    · exact takeS_bytes _ _ _ hby
theorem textS_bytes (xs : List Int) (e most : Int) (hby : IsBytes xs) : IsBytes (textS xs e most).2.1 := takeS_bytes _ _ _ (numS_bytes _ _ _ hby)

set_option maxRecDepth 100000 in
set_option maxHeartbeats 1600000 in
theorem vtext_any (g : Nat) (xs : List Int) (e most : Int) (w : World) (hr : Rd w g xs e) (hby : IsBytes xs) (hm0 : 0 ≤ most) (hm1 : most ≤ 1000000) :
    Calls Tryd.prog 51 #[.pointer (some ⟨g, 0, none⟩), .int .u64 most] w (Reads w g (.string (textS xs e most).1) (textS xs e most).2) := by
  have HN := Lib.hid (vnumber_any g xs e most w hr hby)
  have hrg := numS_range xs e most hby hm0
  obtain ⟨p, hp⟩ : ∃ p, textS xs e most = p := ⟨_, rfl⟩
  rw [hp]
  obtain ⟨x, rest, e1, hn⟩ : ∃ a b c, numS xs e most = (a, b, c) := ⟨_, _, _, rfl⟩
  unfold textS at hp
  rw [hn] at hp HN hrg
  simp only at hp HN hrg
  obtain ⟨n, rfl⟩ : ∃ n : Nat, x = n := ⟨x.toNat, by omega⟩
  simp only [Int.toNat_natCast] at hp
  obtain ⟨ys, rest2, e2, ht⟩ : ∃ a b c, takeS rest e1 n = (a, b, c) := ⟨_, _, _, rfl⟩
  have HTK := Lib.hid (fun W h => vtake_any g rest e1 n W h (by omega))
  rw [ht] at hp HTK
  simp only at hp HTK
  have HP := Lib.hid hp
  clear hp ht hr hn hby
  obtain ⟨T, hT⟩ : ∃ T, textOf ys = T := ⟨_, rfl⟩
  have CV := Lib.hid (fun (W : World) (B : Nat) (X : Option Addr) (d : Nat) (h : Lies .u8 W B X ys) => conv_bytes (P := Tryd.prog) 30 9 5 Tryd.underlying30 Tryd.underlying5 Tryd.underlying9 h d)
  rw [hT] at CV
  have HT := Lib.hid hT
  clear hT
  go_enter Tryd.func51, Tryd.ntmps51
  go_wp2_with fail
  refine HN.out.mono ?_
  rintro en w1 ⟨rfl, hr1, hgr1⟩
  go_wp2_with fail
  refine (HTK.out w1 hr1).mono ?_
  rintro en w2 ⟨A, c, rfl, hc, hcm, hl, hr2, hgr2⟩
  have hcv := CV.out w2 g A c hl
  clear CV HN HTK hl hcm hrg
  go_wp2
  go_ret
  rw [← HP.out, HT.out]
  exact ⟨rfl, hr2, grown_trans hgr1 hgr2⟩
end Go.Proofs.YtiglignfjegilaaDoor

namespace Go.Proofs.YtiglignfjegilaaDoor

def gsV (off time : Int) (dead : Bool) (key : ByteArray) (L : Nat) (p : List Int × Int) : Rec × Int × Int :=
  if (textS p.1 p.2 2000).2.2 ≠ 0 then (zeroR, 0, (textS p.1 p.2 2000).2.2)
  else if (⟨off, time, key, (textS p.1 p.2 2000).1, dead⟩ : Rec).right then (⟨off, time, key, (textS p.1 p.2 2000).1, dead⟩, (L : Int) - ((textS p.1 p.2 2000).2.1.length : Int), 0)
  else (zeroR, 0, 2)
def gsK (off time : Int) (dead : Bool) (L : Nat) (p : List Int × Int) : Rec × Int × Int := gsV off time dead (textS p.1 p.2 200).1 L (textS p.1 p.2 200).2
def gsF (off time : Int) (L : Nat) (p : List Int × Int) : Rec × Int × Int := gsK off time (flagS p.1 p.2).1 L (flagS p.1 p.2).2
def gsT (off : Int) (L : Nat) (p : List Int × Int) : Rec × Int × Int := gsF off (unfoldI (numS p.1 p.2 2199023255552).1) L (numS p.1 p.2 2199023255552).2
def getS (xs : List Int) : Rec × Int × Int := gsT (numS xs 0 1125899906842624).1 xs.length (numS xs 0 1125899906842624).2

theorem numS_err (xs : List Int) (e most : Int) (h : e ≠ 0) : numS xs e most = (0, xs, e) := if_pos h
theorem takeS_err (xs : List Int) (e : Int) (n : Nat) (h : e ≠ 0) : takeS xs e n = ([], xs, e) := if_pos h
theorem flagS_err (xs : List Int) (e : Int) (h : e ≠ 0) : flagS xs e = (false, xs, e) := by
  unfold flagS
  rw [takeS_err _ _ _ h]
  simp only
  rw [if_pos h]
theorem textS_err (xs : List Int) (e most : Int) (h : e ≠ 0) : textS xs e most = (textOf [], xs, e) := by
  unfold textS
  rw [numS_err _ _ _ h]
  simp only
  rw [takeS_err _ _ _ h]
theorem gsV_err (off time : Int) (dead : Bool) (key : ByteArray) (L : Nat) (p : List Int × Int) (h : p.2 ≠ 0) : gsV off time dead key L p = (zeroR, 0, p.2) := by
  unfold gsV
  rw [textS_err _ _ _ h]
  simp only
  rw [if_pos h]
theorem gsK_err (off time : Int) (dead : Bool) (L : Nat) (p : List Int × Int) (h : p.2 ≠ 0) : gsK off time dead L p = (zeroR, 0, p.2) := by
  unfold gsK
  rw [textS_err _ _ _ h]
  exact gsV_err _ _ _ _ _ _ h
theorem gsF_err (off time : Int) (L : Nat) (p : List Int × Int) (h : p.2 ≠ 0) : gsF off time L p = (zeroR, 0, p.2) := by
  unfold gsF
  rw [flagS_err _ _ h]
  exact gsK_err _ _ _ _ _ h
theorem gsT_err (off : Int) (L : Nat) (p : List Int × Int) (h : p.2 ≠ 0) : gsT off L p = (zeroR, 0, p.2) := by
  unfold gsT
  rw [numS_err _ _ _ h]
  exact gsF_err _ _ _ _ h

/-- A text behind its length: the reader's way and the document's. -/
theorem textS_part (bs : List Int) (i : Nat) (most : Int) (hby : IsBytes bs) (hi : i ≤ bs.length) :
    ((partR bs i most).2.2 ≠ 0 → (textS (bs.drop i) 0 most).2.2 = (partR bs i most).2.2) ∧
    ((partR bs i most).2.2 = 0 → textS (bs.drop i) 0 most = ((partR bs i most).1, bs.drop (partR bs i most).2.1.toNat, 0) ∧ (partR bs i most).2.1.toNat ≤ bs.length ∧ 0 ≤ (partR bs i most).2.1) := by
  have hbd : IsBytes (bs.drop i) := fun x hx => hby x (List.mem_of_mem_drop hx)
  obtain ⟨x, k, e, hg⟩ : ∃ x k e, getR (bs.drop i) = (x, k, e) := ⟨_, _, _, rfl⟩
  unfold textS partR numS
  rw [hg]
  simp only [ne_eq, not_true_eq_false, if_false]
  by_cases he : e = 0
  · subst he
    obtain ⟨n, m, rfl, rfl, hm, hm2, hn⟩ := getR_nat hbd hg
    rw [List.length_drop] at hm
    simp only [not_true_eq_false, if_false]
    by_cases hbig : most < (n : Int)
    · simp only [hbig, if_true]
      unfold takeS
      simp
    · simp only [hbig, if_false, Int.toNat_natCast]
      by_cases hsh : (bs.length : Int) - ((i : Int) + (m : Int)) < (n : Int)
      · have ht : takeS ((bs.drop i).drop m) 0 n = ([], (bs.drop i).drop m, 4) := by
          unfold takeS
          rw [if_neg (by omega), if_pos (by simp only [List.length_drop]; omega)]
        simp only [hsh, if_true, ht]
        simp
      · have ht : takeS ((bs.drop i).drop m) 0 n = (((bs.drop i).drop m).take n, ((bs.drop i).drop m).drop n, 0) := by
          unfold takeS
          rw [if_neg (by omega), if_neg (by simp only [List.length_drop]; omega)]
        simp only [hsh, if_false, ht]
        have e1 : ((i : Int) + (m : Int) + (n : Int)).toNat = i + m + n := by omega
        refine ⟨fun h => (h trivial).elim, fun _ => ⟨?_, by rw [e1]; omega, by omega⟩⟩
        rw [e1, List.drop_drop, List.drop_drop]
  · have ht : takeS (bs.drop i) e 0 = ([], bs.drop i, e) := takeS_err _ _ _ he
    simp only [he, not_false_eq_true, if_true, Int.toNat_zero, ht]
    simp [he]

theorem gsK_eq (bs : List Int) (off time : Int) (dead : Bool) (i : Nat) (hby : IsBytes bs) (hi : i ≤ bs.length) : gsK off time dead bs.length (bs.drop i, 0) = getB bs off time dead i := by
  obtain ⟨k1, k2⟩ := textS_part bs i 200 hby hi
  unfold gsK getB
  simp only
  by_cases he : (partR bs i 200).2.2 = 0
  · obtain ⟨k3, k4, k5⟩ := k2 he
    rw [k3]
    simp only
    rw [if_neg (by rw [he]; simp)]
    obtain ⟨v1, v2⟩ := textS_part bs (partR bs i 200).2.1.toNat 2000 hby k4
    unfold gsV
    simp only
    by_cases hv : (partR bs (partR bs i 200).2.1.toNat 2000).2.2 = 0
    · obtain ⟨v3, v4, v5⟩ := v2 hv
      rw [v3]
      simp only [ne_eq, not_true_eq_false, if_false, hv]
      have e1 : (bs.length : Int) - ((bs.drop (partR bs (partR bs i 200).2.1.toNat 2000).2.1.toNat).length : Int) = (partR bs (partR bs i 200).2.1.toNat 2000).2.1 := by
        rw [List.length_drop]; omega
      rw [e1]
    · rw [if_pos (by rw [v1 hv]; exact hv), if_pos hv, v1 hv]
  · rw [if_pos he, gsV_err _ _ _ _ _ _ (by rw [k1 he]; exact he), k1 he]

theorem gsF_eq (bs : List Int) (off time : Int) (i : Nat) (hby : IsBytes bs) (hi : i ≤ bs.length) : gsF off time bs.length (bs.drop i, 0) = getD bs off time i := by
  unfold gsF getD flagS
  simp only
  by_cases hl : bs.length ≤ i
  · have ht : takeS (bs.drop i) 0 1 = ([], bs.drop i, 4) := by
      unfold takeS
      rw [if_neg (by omega), if_pos (by simp only [List.length_drop]; omega)]
    rw [ht, if_pos hl]
    simp only
    rw [if_pos (by decide)]
    exact gsK_err _ _ _ _ _ (by simp)
  · have hlt : i < bs.length := by omega
    have hd : bs.drop i = bs[i] :: bs.drop (i + 1) := List.drop_eq_getElem_cons hlt
    have ht : takeS (bs.drop i) 0 1 = ([bs[i]], bs.drop (i + 1), 0) := by
      unfold takeS
      rw [if_neg (by omega), if_neg (by simp only [List.length_drop]; omega), hd]
      rfl
    have hq : bs.getD i 0 = bs[i] := by simp [List.getD, hlt]
    rw [ht, if_neg hl, hq]
    simp only [ne_eq, not_true_eq_false, if_false, List.getD_cons_zero]
    by_cases h1 : 1 < bs[i]
    · rw [if_pos h1, if_pos h1]
      exact gsK_err _ _ _ _ _ (by simp)
    · rw [if_neg h1, if_neg h1]
      exact gsK_eq bs off time _ (i + 1) hby hlt

theorem unfold_bound (n : Nat) : (unfoldI n < -1099511627776 ∨ 1099511627776 < unfoldI n) ↔ (2199023255552 : Int) < n := by
  unfold unfoldI
  split <;> omega

theorem gsT_eq (bs : List Int) (off : Int) (i : Nat) (hby : IsBytes bs) (hi : i ≤ bs.length) : gsT off bs.length (bs.drop i, 0) = getT bs off i := by
  have hbd : IsBytes (bs.drop i) := fun x hx => hby x (List.mem_of_mem_drop hx)
  obtain ⟨x, k, e, hg⟩ : ∃ x k e, getR (bs.drop i) = (x, k, e) := ⟨_, _, _, rfl⟩
  unfold gsT getT numS
  rw [hg]
  simp only [ne_eq, not_true_eq_false, if_false]
  by_cases he : e = 0
  · subst he
    obtain ⟨n, m, rfl, rfl, hm, hm2, hn⟩ := getR_nat hbd hg
    rw [List.length_drop] at hm
    simp only [not_true_eq_false, if_false, Int.toNat_natCast]
    have hu := unfold_bound n
    by_cases hbig : (2199023255552 : Int) < (n : Int)
    · rw [if_pos hbig, if_pos (hu.2 hbig)]
      exact gsF_err _ _ _ _ (by simp)
    · rw [if_neg hbig, if_neg (fun h => hbig (hu.1 h))]
      simp only
      rw [List.drop_drop]
      exact gsF_eq bs off _ (i + m) hby (by omega)
  · simp only [he, not_false_eq_true, if_true]
    exact gsF_err _ _ _ _ he

theorem getS_eq (bs : List Int) (hby : IsBytes bs) : getS bs = getRec bs := by
  obtain ⟨x, k, e, hg⟩ : ∃ x k e, getR bs = (x, k, e) := ⟨_, _, _, rfl⟩
  unfold getS getRec numS
  rw [hg]
  simp only [ne_eq, not_true_eq_false, if_false]
  by_cases he : e = 0
  · subst he
    obtain ⟨n, m, rfl, rfl, hm, hm2, hn⟩ := getR_nat hby hg
    simp only [not_true_eq_false, if_false, Int.toNat_natCast]
    by_cases hbig : (1125899906842624 : Int) < (n : Int)
    · rw [if_pos hbig, if_pos hbig]
      exact gsT_err _ _ _ (by simp)
    · rw [if_neg hbig, if_neg hbig]
      exact gsT_eq bs n m hby hm
  · simp only [he, not_false_eq_true, if_true]
    exact gsT_err _ _ _ he
end Go.Proofs.YtiglignfjegilaaDoor

namespace Go.Proofs.YtiglignfjegilaaDoor
open Go.RowKit

/-- The world in the middle of record.Get: an empty result, the reader, what is read so far. -/
structure Stage (w W : World) (xs : List Int) (e : Int) (r : Rec) : Prop where
  res : W.heap[w.heap.size]? = some (recO zeroR)
  rd : Rd W (w.heap.size + 1) xs e
  rc : W.heap[w.heap.size + 1 + 1]? = some (recO r)
  bel : Below w.heap.size w W
theorem Stage.start (w : World) (A : Option Addr) (xs : List Int) (c : Nat) (hl : Lies .u8 w w.heap.size A xs) (hc : xs.length ≤ c) (hcm : c ≤ maxLen) :
    Stage w (((w.alloc (recO zeroR)).alloc (.cells #[.slice A xs.length c, .int .i64 0] 94)).alloc (recO zeroR)) xs 0 zeroR := by
  have hb : Below w.heap.size w (((w.alloc (recO zeroR)).alloc (.cells #[.slice A xs.length c, .int .i64 0] 94)).alloc (recO zeroR)) :=
    (((Below.refl _ _).alloc (Nat.le_refl _) _).alloc (by simp) _).alloc (by simp; omega) _
  refine ⟨?_, ⟨A, c, ?_, hc, hcm, (hl.below hb).more (by omega)⟩, ?_, hb⟩
  · rw [Below.heap_alloc _ _ _ (by simp; omega), Below.heap_alloc _ _ _ (by simp), heap_alloc_new]
  · rw [Below.heap_alloc _ _ _ (by simp)]
    exact (congrArg (fun k => ((w.alloc (recO zeroR)).alloc (.cells #[.slice A xs.length c, .int .i64 0] 94)).heap[k]?) (by simp)).trans (heap_alloc_new (w.alloc (recO zeroR)) _)
  · exact (congrArg (fun k => (((w.alloc (recO zeroR)).alloc (.cells #[.slice A xs.length c, .int .i64 0] 94)).alloc (recO zeroR)).heap[k]?) (by simp)).trans (heap_alloc_new ((w.alloc (recO zeroR)).alloc (.cells #[.slice A xs.length c, .int .i64 0] 94)) _)
theorem Stage.call {w W W' : World} {xs xs' : List Int} {e e' : Int} {r : Rec} (h : Stage w W xs e r) (hg : W.grownBy W' (some (w.heap.size + 1))) (hr : Rd W' (w.heap.size + 1) xs' e') : Stage w W' xs' e' r :=
  ⟨(hg.block _ (heap_lt h.res) (by simp)).trans h.res, hr, (hg.block _ (heap_lt h.rc) (by simp)).trans h.rc, h.bel.grown hg (by have := h.bel.size; omega) (by simp)⟩
theorem Stage.set {w W : World} {xs : List Int} {e : Int} {r r' : Rec} (h : Stage w W xs e r) (j : Nat) (v : Value)
    (hv : (#[.int .i64 r.off, .int .i64 r.time, .string r.key, .string r.val, .bool r.dead] : Array Value).setIfInBounds j v = #[.int .i64 r'.off, .int .i64 r'.time, .string r'.key, .string r'.val, .bool r'.dead]) :
    Stage w (W.setCell ⟨w.heap.size + 1 + 1, j, none⟩ v) xs e r' := by
  refine ⟨(heap_setCell_other W _ _ v (by simp; omega)).trans h.res, ?_, ?_, h.bel.setCell (by simp; omega) v⟩
  · obtain ⟨A, c, h1, h2, h3, h4⟩ := h.rd
    refine ⟨A, c, (heap_setCell_other W _ _ v (by simp)).trans h1, h2, h3, h4.keep fun b o hb => World.cell?_of_block (a := ⟨b, o, none⟩) (heap_setCell_other W _ _ v (by simp; omega))⟩
  · unfold recO
    rw [heap_setCell_same W _ j _ _ v h.rc, hv]
theorem Stage.below {w W W' : World} {xs : List Int} {e : Int} {r : Rec} (h : Stage w W xs e r) (hb : Below W.heap.size W W') : Stage w W' xs e r := by
  refine ⟨(hb.block _ (heap_lt h.res)).trans h.res, ?_, (hb.block _ (heap_lt h.rc)).trans h.rc, h.bel.trans (hb.mono h.bel.size)⟩
  have hlt := h.rd.lt
  obtain ⟨A, c, h1, h2, h3, h4⟩ := h.rd
  exact ⟨A, c, (hb.block _ hlt).trans h1, h2, h3, h4.below (hb.mono (by omega))⟩
set_option maxRecDepth 100000 in
set_option maxHeartbeats 8000000 in
theorem vrecget_any (A : Option Addr) (xs : List Int) (c : Nat) (w : World) (hl : Lies .u8 w w.heap.size A xs) (hby : IsBytes xs) (hc : xs.length ≤ c) (hcm : c ≤ maxLen) :
    Calls Tryd.prog 44 #[.slice A xs.length c] w (TellsRec (getRec xs) w) := by
  rw [← getS_eq xs hby]
  have HS := Lib.hid (Stage.start w A xs c hl hc hcm)
  have HXM := Lib.hid (show xs.length ≤ 9223372036854775807 by unfold maxLen at hcm; omega)
  obtain ⟨p, hp⟩ : ∃ p, getS xs = p := ⟨_, rfl⟩
  rw [hp]
  have hrg1 := numS_range xs 0 1125899906842624 hby (by omega)
  have hby1 := numS_bytes xs 0 1125899906842624 hby
  have HN1 := Lib.hid (fun W h => vnumber_any (w.heap.size + 1) xs 0 1125899906842624 W h hby)
  unfold getS at hp
  obtain ⟨x1, xs1, e1, hn1⟩ : ∃ a b c, numS xs 0 1125899906842624 = (a, b, c) := ⟨_, _, _, rfl⟩
  rw [hn1] at hp HN1 hrg1 hby1
  simp only at hp HN1 hrg1 hby1
  have hrg2 := numS_range xs1 e1 2199023255552 hby1 (by omega)
  have hby2 := numS_bytes xs1 e1 2199023255552 hby1
  have HN2 := Lib.hid (fun W h => vnumber_any (w.heap.size + 1) xs1 e1 2199023255552 W h hby1)
  unfold gsT at hp
  obtain ⟨x2, xs2, e2, hn2⟩ : ∃ a b c, numS xs1 e1 2199023255552 = (a, b, c) := ⟨_, _, _, rfl⟩
  simp only at hp
  rw [hn2] at hp HN2 hrg2 hby2
  simp only at hp HN2 hrg2 hby2
  have hur := unfold_range x2 (by omega) (by omega)
  have HU := Lib.hid (fun W => unfold_any x2 W (by omega) (by omega))
  obtain ⟨tv, htv⟩ : ∃ tv, unfoldI x2 = tv := ⟨_, rfl⟩
  rw [htv] at hp hur HU
  have HF := Lib.hid (fun W => fold_any 1099511627776 W (by omega) (by omega))
  rw [show foldI 1099511627776 = 2199023255552 from rfl] at HF
  have hby3 := flagS_bytes xs2 e2 hby2
  have HN3 := Lib.hid (fun W h => vflag_any (w.heap.size + 1) xs2 e2 W h)
  unfold gsF at hp
  obtain ⟨dd, xs3, e3, hn3⟩ : ∃ a b c, flagS xs2 e2 = (a, b, c) := ⟨_, _, _, rfl⟩
  simp only at hp
  rw [hn3] at hp HN3 hby3
  simp only at hp HN3 hby3
  have hby4 := textS_bytes xs3 e3 200 hby3
  have HN4 := Lib.hid (fun W h => vtext_any (w.heap.size + 1) xs3 e3 200 W h hby3 (by omega) (by omega))
  unfold gsK at hp
  obtain ⟨key, xs4, e4, hn4⟩ : ∃ a b c, textS xs3 e3 200 = (a, b, c) := ⟨_, _, _, rfl⟩
  simp only at hp
  rw [hn4] at hp HN4 hby4
  simp only at hp HN4 hby4
  have HN5 := Lib.hid (fun W h => vtext_any (w.heap.size + 1) xs4 e4 2000 W h hby4 (by omega) (by omega))
  unfold gsV at hp
  obtain ⟨val, xs5, e5, hn5⟩ : ∃ a b c, textS xs4 e4 2000 = (a, b, c) := ⟨_, _, _, rfl⟩
  simp only at hp
  rw [hn5] at hp HN5
  simp only at hp HN5
  have HP := Lib.hid hp
  have hrr := vright_any ⟨x1, tv, key, val, dd⟩
  unfold recV at hrr
  simp only at hrr
  have HRR := Lib.hid hrr
  clear hrr hp hl hcm hn1 hn2 hn3 hn4 hn5 hby hby1 hby2 hby3 hby4 htv
  go_enter Tryd.func44, Tryd.ntmps44
  go_wp2_with fail
  refine (HN1.out _ HS.out.rd).mono ?_
  rintro en w1 ⟨rfl, hr1, hg1⟩
  have HS1 := Lib.hid (HS.out.call hg1 hr1)
  clear HS HN1 hg1 hr1
  obtain ⟨⟨a0, a1, a2, a3, a4⟩, af⟩ := obj_cells HS1.out.rc
  go_wp2_with fail
  refine (HF.out _).mono ?_
  rintro en W ⟨rfl, rfl⟩
  go_wp2_with fail
  have HT1 := Lib.hid (HS1.out.set (r' := ⟨x1, 0, ⟨#[]⟩, ⟨#[]⟩, false⟩) 0 (.int .i64 x1) (by simp [zeroR]))
  clear HS1 a0 a1 a2 a3 a4 af
  refine (HN2.out _ HT1.out.rd).mono ?_
  rintro en w2 ⟨rfl, hr2, hg2⟩
  have HS2 := Lib.hid (HT1.out.call hg2 hr2)
  clear HT1 HN2 hg2 hr2
  obtain ⟨⟨a0, a1, a2, a3, a4⟩, af⟩ := obj_cells HS2.out.rc
  go_wp2_with fail
  refine (HU.out _).mono ?_
  rintro en W ⟨rfl, rfl⟩
  go_wp2_with fail
  have HT2 := Lib.hid (HS2.out.set (r' := ⟨x1, tv, ⟨#[]⟩, ⟨#[]⟩, false⟩) 1 (.int .i64 tv) (by simp))
  clear HS2 a0 a1 a2 a3 a4 af
  refine (HN3.out _ HT2.out.rd).mono ?_
  rintro en w3 ⟨rfl, hr3, hg3⟩
  have HS3 := Lib.hid (HT2.out.call hg3 hr3)
  clear HT2 HN3 hg3 hr3
  obtain ⟨⟨a0, a1, a2, a3, a4⟩, af⟩ := obj_cells HS3.out.rc
  go_wp2_with fail
  have HT3 := Lib.hid (HS3.out.set (r' := ⟨x1, tv, ⟨#[]⟩, ⟨#[]⟩, dd⟩) 4 (.bool dd) (by simp))
  clear HS3 a0 a1 a2 a3 a4 af
  refine (HN4.out _ HT3.out.rd).mono ?_
  rintro en w4 ⟨rfl, hr4, hg4⟩
  have HS4 := Lib.hid (HT3.out.call hg4 hr4)
  clear HT3 HN4 hg4 hr4
  obtain ⟨⟨a0, a1, a2, a3, a4⟩, af⟩ := obj_cells HS4.out.rc
  go_wp2_with fail
  have HT4 := Lib.hid (HS4.out.set (r' := ⟨x1, tv, key, ⟨#[]⟩, dd⟩) 2 (.string key) (by simp))
  clear HS4 a0 a1 a2 a3 a4 af
  refine (HN5.out _ HT4.out.rd).mono ?_
  rintro en w5 ⟨rfl, hr5, hg5⟩
  have HS5 := Lib.hid (HT4.out.call hg5 hr5)
  clear HT4 HN5 hg5 hr5
  obtain ⟨⟨a0, a1, a2, a3, a4⟩, af⟩ := obj_cells HS5.out.rc
  have HT5 := Lib.hid (HS5.out.set (r' := ⟨x1, tv, key, val, dd⟩) 3 (.string val) (by simp))
  obtain ⟨A5, c5, hd5, hc5, hm5, hl5⟩ := HT5.out.rd
  obtain ⟨d0, d1, df0, df1⟩ := rd_cells hd5
  obtain ⟨⟨b0, b1, b2, b3, b4⟩, bf⟩ := obj_cells HT5.out.rc
  by_cases he : e5 = 0
  · subst he
    go_wp2_with fail
    refine (HRR.out _).mono ?_
    rintro en w6 ⟨rfl, hb6⟩
    have HT6 := Lib.hid (HT5.out.below hb6)
    clear HT5 HS5 HRR HF HU a0 a1 a2 a3 a4 af b0 b1 b2 b3 b4 bf d0 d1 df0 df1 hd5 hc5 hm5 hl5 hb6 A5 c5
    obtain ⟨A5, c5, hd5, hc5, hm5, hl5⟩ := HT6.out.rd
    obtain ⟨d0, d1, df0, df1⟩ := rd_cells hd5
    obtain ⟨⟨b0, b1, b2, b3, b4⟩, bf⟩ := obj_cells HT6.out.rc
    obtain ⟨⟨r0, r1, r2, r3, r4⟩, rf⟩ := obj_cells HT6.out.res
    have r0f := rf 0
    have r1f := rf 1
    have r2f := rf 2
    have r3f := rf 3
    have r4f := rf 4
    clear rf bf hd5 hl5
    have hp := HP.out
    simp only [ne_eq, not_true_eq_false, if_false] at hp
    by_cases hR : (⟨x1, tv, key, val, dd⟩ : Rec).right
    · rw [if_pos hR] at hp
      have HFN := Lib.hid hp
      rw [decide_eq_true hR]
      clear hR hp HP
      go_wp2_with fail
      obtain ⟨k0, k1, k2, k3, k4⟩ := five_cells HT6.out.res (.int .i64 x1) (.int .i64 tv) (.string key) (.string val) (.bool dd)
      have HK := Lib.hid (And.intro k0 (And.intro k1 (And.intro k2 (And.intro k3 k4))))
      clear k0 k1 k2 k3 k4
      go_region
      go_wp2
      obtain ⟨k0, k1, k2, k3, k4⟩ := HK.out
      (try simp only [Exit.inBlock, Exit.then])
      refine bodyPost_ret (by simp [results, Tryd.results44, go_sem, k0, k1, k2, k3, k4]; try rfl) rfl ?_
      have hwr : wrap64 ((xs.length : Int) - (xs5.length : Int)) = (xs.length : Int) - (xs5.length : Int) := by
        have h1 := HXM.out
        unfold maxLen at hm5
        simp only [wrap64]
        omega
      rw [hwr]
      exact TellsRec.mk (r := ⟨x1, tv, key, val, dd⟩) HFN.out.symm ((((((HT6.out.bel.setCell (Nat.le_refl _) _).setCell (Nat.le_refl _) _).setCell (Nat.le_refl _) _).setCell (Nat.le_refl _) _).setCell (Nat.le_refl _) _).drew)
    · rw [if_neg hR] at hp
      have HFN := Lib.hid hp
      rw [decide_eq_false hR]
      clear hR hp HP
      go_wp2
      obtain ⟨k0, k1, k2, k3, k4⟩ := five_cells HT6.out.res (.int .i64 0) (.int .i64 0) (.string ⟨#[]⟩) (.string ⟨#[]⟩) (.bool false)
      (try simp only [Exit.inBlock, Exit.then])
      refine bodyPost_ret (by simp [results, Tryd.results44, go_sem, k0, k1, k2, k3, k4]; try rfl) rfl ?_
      exact TellsRec.none HFN.out.symm (((((HT6.out.bel.setCell (Nat.le_refl _) _).setCell (Nat.le_refl _) _).setCell (Nat.le_refl _) _).setCell (Nat.le_refl _) _).setCell (Nat.le_refl _) _)
  · have HFN := Lib.hid (show p = (zeroR, 0, e5) by rw [← HP.out, if_pos he])
    have heb : (e5 != 0) = true := by simpa using he
    obtain ⟨⟨r0, r1, r2, r3, r4⟩, rf⟩ := obj_cells HT5.out.res
    have r0f := rf 0
    have r1f := rf 1
    have r2f := rf 2
    have r3f := rf 3
    have r4f := rf 4
    go_wp2_with fail
    clear HP HRR HF HU HS5 a0 a1 a2 a3 a4 af b0 b1 b2 b3 b4 bf rf
    generalize w5.setCell ⟨w.heap.size + 1 + 1, 3, none⟩ (.string val) = W5 at *
    go_region
    go_wp2
    obtain ⟨k0, k1, k2, k3, k4⟩ := five_cells HT5.out.res (.int .i64 0) (.int .i64 0) (.string ⟨#[]⟩) (.string ⟨#[]⟩) (.bool false)
    (try simp only [Exit.inBlock, Exit.then])
    refine bodyPost_ret (by simp [results, Tryd.results44, go_sem, k0, k1, k2, k3, k4]; try rfl) rfl ?_
    exact TellsRec.none HFN.out ((((((HT5.out.bel.setCell (Nat.le_refl _) _).setCell (Nat.le_refl _) _).setCell (Nat.le_refl _) _).setCell (Nat.le_refl _) _).setCell (Nat.le_refl _) _).drew)
end Go.Proofs.YtiglignfjegilaaDoor
