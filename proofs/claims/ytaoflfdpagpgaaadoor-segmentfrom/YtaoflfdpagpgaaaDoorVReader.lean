/- Contracts of the program's reader of records (number, take, flag, text). -/
import Derived.Test.YtaoflfdpagpgaaaDoorVGet
import Derived.Test.YtaoflfdpagpgaaaDoorRecWords
import Derived.Laws.Rows
namespace Go.Proofs.YtaoflfdpagpgaaaDoor
open Go.RowKit

/-! ### The reader as plain functions: what is taken, what is left, the error -/
def numS (xs : List Int) (e most : Int) : Int × List Int × Int :=
  if e ≠ 0 then (0, xs, e)
  else if (getR xs).2.2 ≠ 0 then (0, xs, (getR xs).2.2)
  else if most < (getR xs).1 then (0, xs, 2)
  else ((getR xs).1, xs.drop (getR xs).2.1.toNat, 0)
def takeS (xs : List Int) (e : Int) (n : Nat) : List Int × List Int × Int :=
  if e ≠ 0 then ([], xs, e)
  else if xs.length < n then ([], xs, 4)
  else (xs.take n, xs.drop n, 0)
def flagS (xs : List Int) (e : Int) : Bool × List Int × Int :=
  if (takeS xs e 1).2.2 ≠ 0 then (false, (takeS xs e 1).2)
  else if 1 < (takeS xs e 1).1.getD 0 0 then (false, (takeS xs e 1).2.1, 2)
  else ((takeS xs e 1).1.getD 0 0 == 1, (takeS xs e 1).2)
def textS (xs : List Int) (e most : Int) : ByteArray × List Int × Int :=
  (textOf (takeS (numS xs e most).2.1 (numS xs e most).2.2 (numS xs e most).1.toNat).1, (takeS (numS xs e most).2.1 (numS xs e most).2.2 (numS xs e most).1.toNat).2)

/-! ### The reader in memory -/
/-- Block g is a reader of which xs is left, with the error e; what is left lies below g. -/
def Rd (w : World) (g : Nat) (xs : List Int) (e : Int) : Prop :=
  ∃ A c, w.heap[g]? = some (.cells #[.slice A xs.length c, .int .i64 e] 73 (0, 0)) ∧ xs.length ≤ c ∧ c ≤ maxLen ∧ Lies .u8 w g A xs
/-- A call of a reader's method that answers v. -/
def Reads (w : World) (g : Nat) (v : Value) (p : List Int × Int) (e : Ending) (w' : World) : Prop := e = .returned v ∧ Rd w' g p.1 p.2 ∧ w.grownBy w' (some g)
theorem grown_refl (w : World) (row : Option Nat) : w.grownBy w row := ⟨rfl, rfl, rfl, Nat.le_refl _, fun _ _ _ => rfl⟩
theorem grown_set (w : World) (g j : Nat) (v : Value) : w.grownBy (w.setCell ⟨g, j, none⟩ v) (some g) :=
  ⟨rfl, rfl, rfl, by simp, fun k _ hk => heap_setCell_other w _ k v (fun h => hk (by rw [h]))⟩
theorem grown_trans {a b c : World} {row : Option Nat} (h : a.grownBy b row) (k : b.grownBy c row) : a.grownBy c row :=
  ⟨k.os.trans h.os, k.tape.trans h.tape, k.output.trans h.output, Nat.le_trans h.size k.size, fun i hi hn => (k.block i (Nat.lt_of_lt_of_le hi h.size) hn).trans (h.block i hi hn)⟩
theorem heap_lt {w : World} {g : Nat} {o : Obj} (h : w.heap[g]? = some o) : g < w.heap.size := (Array.getElem?_eq_some_iff.1 h).1
theorem Lies.aside {k : IntKind} {w w' : World} {g : Nat} {A : Option Addr} {xs : List Int} (h : Lies k w g A xs) (hg : w.grownBy w' (some g)) (hlt : g < w.heap.size) : Lies k w' g A xs :=
  h.keep fun b o hb => World.cell?_of_block (a := ⟨b, o, none⟩) (hg.block b (by omega) (by simp; omega))
theorem Rd.lt {w : World} {g : Nat} {xs : List Int} {e : Int} (h : Rd w g xs e) : g < w.heap.size := by
  obtain ⟨A, c, h1, _⟩ := h
  exact heap_lt h1
/-- The error is written. -/
theorem rd_err {w : World} {g : Nat} {A : Option Addr} {c : Nat} {xs : List Int} {e e' : Int} (h : w.heap[g]? = some (.cells #[.slice A xs.length c, .int .i64 e] 73 (0, 0))) (hc : xs.length ≤ c) (hm : c ≤ maxLen) (hl : Lies .u8 w g A xs) :
    Rd (w.setCell ⟨g, 1, none⟩ (.int .i64 e')) g xs e' := by
  refine ⟨A, c, ?_, hc, hm, hl.aside (grown_set _ _ _ _) (heap_lt h)⟩
  rw [heap_setCell_same w g 1 _ _ _ h]
  simp
/-- What is left is written. -/
theorem rd_rest {w : World} {g : Nat} {A A' : Option Addr} {c c' : Nat} {xs ys : List Int} {e : Int} (h : w.heap[g]? = some (.cells #[.slice A xs.length c, .int .i64 e] 73 (0, 0))) (n : Nat) (hn : n = ys.length) (hc : ys.length ≤ c') (hm : c' ≤ maxLen) (hl : Lies .u8 w g A' ys) :
    Rd (w.setCell ⟨g, 0, none⟩ (.slice A' n c')) g ys e := by
  subst hn
  refine ⟨A', c', ?_, hc, hm, hl.aside (grown_set _ _ _ _) (heap_lt h)⟩
  rw [heap_setCell_same w g 0 _ _ _ h]
  simp
theorem rd_cells {w : World} {g : Nat} {v u : Value} (h : w.heap[g]? = some (.cells #[v, u] 73 (0, 0))) :
    w.cell? ⟨g, 0, none⟩ = some v ∧ w.cell? ⟨g, 1, none⟩ = some u ∧ w.frozen? ⟨g, 0, none⟩ = false ∧ w.frozen? ⟨g, 1, none⟩ = false :=
  ⟨by simp [World.cell?, h], by simp [World.cell?, h], by simp [World.frozen?, h], by simp [World.frozen?, h]⟩

set_option maxRecDepth 100000 in
set_option maxHeartbeats 1600000 in
theorem vnumber_any (g : Nat) (xs : List Int) (e most : Int) (w : World) (hr : Rd w g xs e) (hby : IsBytes xs) :
    Calls Tryd.prog 48 #[.pointer (some ⟨g, 0, none⟩), .int .u64 most] w (Reads w g (.int .u64 (numS xs e most).1) (numS xs e most).2) := by
  obtain ⟨A, c, hg, hc, hcm, hl⟩ := hr
  obtain ⟨c0, c1, f0, f1⟩ := rd_cells hg
  have HG := Lib.hid hg
  have HL := Lib.hid hl
  have hlt := heap_lt hg
  obtain ⟨p, hp⟩ : ∃ p, numS xs e most = p := ⟨_, rfl⟩
  rw [hp]
  have HP := Lib.hid hp
  have HCM := Lib.hid hcm
  unfold maxLen at hcm
  have HGET := Lib.hid (get_any A xs c w (hl.more (by omega)) hby)
  clear hg hp hl
  by_cases he : e = 0
  · subst he
    obtain ⟨x, k, e2, hgr⟩ : ∃ x k e, getR xs = (x, k, e) := ⟨_, _, _, rfl⟩
    rw [hgr] at HGET
    have HGR := Lib.hid hgr
    clear hgr
    by_cases he2 : e2 = 0
    · subst he2
      obtain ⟨n, m, rfl, rfl, hm, hm2, hn⟩ := getR_nat hby HGR.out
      by_cases hbig : most < (n : Int)
      · have HF := Lib.hid (show p = (0, xs, 2) by
          rw [← HP.out]
          unfold numS
          rw [HGR.out]
          simp only
          rw [if_neg (by omega), if_neg (by omega), if_pos hbig])
        go_enter Tryd.func48, Tryd.ntmps48
        go_wp2_with fail
        refine HGET.out.mono ?_
        rintro e w1 ⟨rfl, rfl⟩
        go_wp2
        go_ret
        rw [HF.out]
        exact ⟨rfl, rd_err HG.out hc HCM.out HL.out, grown_set _ _ _ _⟩
      · have HF := Lib.hid (show p = ((n : Int), xs.drop m, 0) by
          rw [← HP.out]
          unfold numS
          rw [HGR.out]
          simp only [Int.toNat_natCast]
          rw [if_neg (by omega), if_neg (by omega), if_neg hbig])
        have HC := Lib.hid (HL.out.cut (n := m) hc)
        have hmz : (m : Int) ≤ (xs.length : Int) := by omega
        by_cases hce : c = m
        · have hc' := HC.out
          rw [if_pos hce] at hc'
          have HC2 := Lib.hid hc'
          subst hce
          clear hc' HC
          go_enter Tryd.func48, Tryd.ntmps48
          go_wp2_with fail
          refine HGET.out.mono ?_
          rintro e w1 ⟨rfl, rfl⟩
          go_wp2
          go_ret
          rw [HF.out]
          exact ⟨rfl, rd_rest HG.out _ (by simp only [List.length_drop]; try omega) (by rw [List.length_drop]; omega) (by unfold maxLen; omega) HC2.out, grown_set _ _ _ _⟩
        · have hc' := HC.out
          rw [if_neg hce] at hc'
          have HC2 := Lib.hid hc'
          clear hc' HC
          go_enter Tryd.func48, Tryd.ntmps48
          go_wp2_with fail
          refine HGET.out.mono ?_
          rintro e w1 ⟨rfl, rfl⟩
          go_wp2
          go_ret
          rw [HF.out]
          exact ⟨rfl, rd_rest HG.out _ (by simp only [List.length_drop]; try omega) (by rw [List.length_drop]; omega) (by unfold maxLen; omega) HC2.out, grown_set _ _ _ _⟩
    · have HF := Lib.hid (show p = (0, xs, e2) by
        rw [← HP.out]
        unfold numS
        rw [HGR.out]
        simp only
        rw [if_neg (by omega), if_pos he2])
      have heb : (e2 != 0) = true := by simpa using he2
      have hec : (e2 == 0) = false := by simpa using he2
      go_enter Tryd.func48, Tryd.ntmps48
      go_wp2_with fail
      refine HGET.out.mono ?_
      rintro e w1 ⟨rfl, rfl⟩
      go_wp2
      go_ret
      rw [HF.out]
      exact ⟨rfl, rd_err HG.out hc HCM.out HL.out, grown_set _ _ _ _⟩
  · have HF := Lib.hid (show p = (0, xs, e) by
      rw [← HP.out]
      unfold numS
      rw [if_pos he])
    have heb : (e != 0) = true := by simpa using he
    go_enter Tryd.func48, Tryd.ntmps48
    go_wp2
    go_ret
    rw [HF.out]
    exact ⟨rfl, ⟨A, c, HG.out, hc, HCM.out, HL.out⟩, grown_refl _ _⟩

/-- What 'take' answers. -/
def Takes (w : World) (g : Nat) (ys : List Int) (p : List Int × Int) (e : Ending) (w' : World) : Prop :=
  ∃ A c, e = .returned (.slice A ys.length c) ∧ ys.length ≤ c ∧ c ≤ maxLen ∧ Lies .u8 w' g A ys ∧ Rd w' g p.1 p.2 ∧ w.grownBy w' (some g)

set_option maxRecDepth 100000 in
set_option maxHeartbeats 1600000 in
theorem vtake_any (g : Nat) (xs : List Int) (e : Int) (n : Nat) (w : World) (hr : Rd w g xs e) (hn : n ≤ 1000000000000) :
    Calls Tryd.prog 52 #[.pointer (some ⟨g, 0, none⟩), .int .i64 (n : Int)] w (Takes w g (takeS xs e n).1 (takeS xs e n).2) := by
  obtain ⟨A, c, hg, hc, hcm, hl⟩ := hr
  obtain ⟨c0, c1, f0, f1⟩ := rd_cells hg
  have HG := Lib.hid hg
  have HL := Lib.hid hl
  have hlt := heap_lt hg
  obtain ⟨p, hp⟩ : ∃ p, takeS xs e n = p := ⟨_, rfl⟩
  rw [hp]
  have HP := Lib.hid hp
  have HCM := Lib.hid hcm
  unfold maxLen at hcm
  clear hg hp hl
  by_cases he : e = 0
  · subst he
    by_cases hsh : (xs.length : Int) < (n : Int)
    · have HF := Lib.hid (show p = ([], xs, 4) by
        rw [← HP.out]
        unfold takeS
        rw [if_neg (by omega), if_pos (by omega)])
      go_enter Tryd.func52, Tryd.ntmps52
      go_wp2
      go_ret
      rw [HF.out]
      exact ⟨none, 0, rfl, by simp, by simp [maxLen], Lies.nil, rd_err HG.out hc HCM.out HL.out, grown_set _ _ _ _⟩
    · have HF := Lib.hid (show p = (xs.take n, xs.drop n, 0) by
        rw [← HP.out]
        unfold takeS
        rw [if_neg (by omega), if_neg (by omega)])
      have HC := Lib.hid (HL.out.cut (n := n) hc)
      have hnz : (n : Int) ≤ (xs.length : Int) := by omega
      have htl : (xs.take n).length = n := by rw [List.length_take]; omega
      have HTL := Lib.hid htl
      have HT := Lib.hid (fun v => (HL.out.take n).aside (grown_set w g 0 v) hlt)
      clear htl
      by_cases hce : c = n
      · have hc' := HC.out
        rw [if_pos hce] at hc'
        have HC2 := Lib.hid hc'
        subst hce
        clear hc' HC
        go_enter Tryd.func52, Tryd.ntmps52
        go_wp2
        go_ret
        rw [HF.out]
        exact ⟨A, c, by rw [HTL.out]; rfl, by rw [HTL.out]; omega, HCM.out, HT.out _, rd_rest HG.out _ (by simp only [List.length_drop]; try omega) (by rw [List.length_drop]; omega) (by unfold maxLen; omega) HC2.out, grown_set _ _ _ _⟩
      · have hc' := HC.out
        rw [if_neg hce] at hc'
        have HC2 := Lib.hid hc'
        clear hc' HC
        go_enter Tryd.func52, Tryd.ntmps52
        go_wp2
        go_ret
        rw [HF.out]
        exact ⟨A, c, by rw [HTL.out]; rfl, by rw [HTL.out]; omega, HCM.out, HT.out _, rd_rest HG.out _ (by simp only [List.length_drop]; try omega) (by rw [List.length_drop]; omega) (by unfold maxLen; omega) HC2.out, grown_set _ _ _ _⟩
  · have HF := Lib.hid (show p = ([], xs, e) by
      rw [← HP.out]
      unfold takeS
      rw [if_pos he])
    have heb : (e != 0) = true := by simpa using he
    go_enter Tryd.func52, Tryd.ntmps52
    go_wp2
    go_ret
    rw [HF.out]
    exact ⟨none, 0, rfl, by simp, by simp [maxLen], Lies.nil, ⟨A, c, HG.out, hc, HCM.out, HL.out⟩, grown_refl _ _⟩

set_option maxRecDepth 100000 in
set_option maxHeartbeats 1600000 in
theorem vflag_any (g : Nat) (xs : List Int) (e : Int) (w : World) (hr : Rd w g xs e) :
    Calls Tryd.prog 50 #[.pointer (some ⟨g, 0, none⟩)] w (Reads w g (.bool (flagS xs e).1) (flagS xs e).2) := by
  have HTK := Lib.hid (vtake_any g xs e 1 w hr (by omega))
  obtain ⟨p, hp⟩ : ∃ p, flagS xs e = p := ⟨_, rfl⟩
  rw [hp]
  obtain ⟨ys, rest, e1, ht⟩ : ∃ a b c, takeS xs e 1 = (a, b, c) := ⟨_, _, _, rfl⟩
  unfold flagS at hp
  rw [ht] at hp HTK
  simp only at hp HTK
  have hyl : e1 = 0 → ys.length = 1 := by
    unfold takeS at ht
    intro h0
    split at ht
    · rename_i hne; injection ht with _ h2; injection h2 with _ h3; omega
    · split at ht
      · injection ht with _ h2; injection h2 with _ h3; omega
      · injection ht with h2 _; rw [← h2, List.length_take]; omega
  have HYL := Lib.hid hyl
  have HP := Lib.hid hp
  clear hp ht hr hyl
  go_enter Tryd.func50, Tryd.ntmps50
  go_wp2_with fail
  refine HTK.out.mono ?_
  rintro en w1 ⟨A, c, rfl, hc, hcm, hl, ⟨A1, d1, hg, hd, hdm, hl1⟩, hgr⟩
  obtain ⟨c0, c1, f0, f1⟩ := rd_cells hg
  have HG := Lib.hid hg
  have HL1 := Lib.hid hl1
  have HGR := Lib.hid hgr
  have HDM := Lib.hid hdm
  clear HTK hg hl1 hgr hdm hcm
  by_cases he : e1 = 0
  · subst he
    have hy := HYL.out rfl
    obtain ⟨q, rfl⟩ : ∃ q, ys = [q] := by
      match ys, hy with
      | [q], _ => exact ⟨q, rfl⟩
    obtain ⟨b, off, rfl, hbl, hcell⟩ := hl.at_ (j := 0) (by simp)
    simp only [List.getElem_cons_zero, Nat.add_zero] at hcell
    have hpp := HP.out
    simp only [ne_eq, not_true_eq_false, if_false, List.getD_cons_zero] at hpp
    clear HYL hl hy HP
    simp only [List.length_cons, List.length_nil, Nat.zero_add] at hc ⊢
    by_cases hq : 1 < q
    · rw [if_pos hq] at hpp
      have HPP := Lib.hid hpp
      clear hpp
      go_wp2
      go_ret
      rw [← HPP.out]
      exact ⟨rfl, rd_err HG.out hd HDM.out HL1.out, grown_trans HGR.out (grown_set _ _ _ _)⟩
    · rw [if_neg hq] at hpp
      have HPP := Lib.hid hpp
      clear hpp
      go_wp2
      go_ret
      rw [← HPP.out]
      exact ⟨rfl, ⟨A1, d1, HG.out, hd, HDM.out, HL1.out⟩, HGR.out⟩
  · have hpp := HP.out
    rw [if_pos he] at hpp
    have HPP := Lib.hid hpp
    have heb : (e1 != 0) = true := by simpa using he
    clear hpp HP HYL
    go_wp2
    go_ret
    rw [← HPP.out]
    exact ⟨rfl, ⟨A1, d1, HG.out, hd, HDM.out, HL1.out⟩, HGR.out⟩

theorem numS_range (xs : List Int) (e most : Int) (hby : IsBytes xs) (hm0 : 0 ≤ most) : 0 ≤ (numS xs e most).1 ∧ (numS xs e most).1 ≤ most := by
  unfold numS
  split
  · exact ⟨Int.le_refl _, hm0⟩
  · split
    · exact ⟨Int.le_refl _, hm0⟩
    · rename_i h2
      split
      · exact ⟨Int.le_refl _, hm0⟩
      · rename_i h3
        obtain ⟨n, m, h, _⟩ := getR_nat (x := (getR xs).1) (k := (getR xs).2.1) hby (by
          have : (getR xs).2.2 = 0 := by omega
          rw [← this])
        simp only
        omega
theorem numS_bytes (xs : List Int) (e most : Int) (hby : IsBytes xs) : IsBytes (numS xs e most).2.1 := by
  unfold numS
  split
  · exact hby
  · split
    · exact hby
    · split
      · exact hby
      · exact fun x hx => hby x (List.mem_of_mem_drop hx)
theorem takeS_bytes (xs : List Int) (e : Int) (n : Nat) (hby : IsBytes xs) : IsBytes (takeS xs e n).2.1 := by
  unfold takeS
  split
  · exact hby
  · split
    · exact hby
    · exact fun x hx => hby x (List.mem_of_mem_drop hx)
theorem flagS_bytes (xs : List Int) (e : Int) (hby : IsBytes xs) : IsBytes (flagS xs e).2.1 := by
  unfold flagS
  split
  · exact takeS_bytes _ _ _ hby
  · split
    · exact takeS_bytes _ _ _ hby
    · exact takeS_bytes _ _ _ hby
theorem textS_bytes (xs : List Int) (e most : Int) (hby : IsBytes xs) : IsBytes (textS xs e most).2.1 := takeS_bytes _ _ _ (numS_bytes _ _ _ hby)

set_option maxRecDepth 100000 in
set_option maxHeartbeats 1600000 in
theorem vtext_any (g : Nat) (xs : List Int) (e most : Int) (w : World) (hr : Rd w g xs e) (hby : IsBytes xs) (hm0 : 0 ≤ most) (hm1 : most ≤ 1000000) :
    Calls Tryd.prog 51 #[.pointer (some ⟨g, 0, none⟩), .int .u64 most] w (Reads w g (.string (textS xs e most).1) (textS xs e most).2) := by
  have HN := Lib.hid (vnumber_any g xs e most w hr hby)
  have hrg := numS_range xs e most hby hm0
  obtain ⟨p, hp⟩ : ∃ p, textS xs e most = p := ⟨_, rfl⟩
  rw [hp]
  obtain ⟨x, rest, e1, hn⟩ : ∃ a b c, numS xs e most = (a, b, c) := ⟨_, _, _, rfl⟩
  unfold textS at hp
  rw [hn] at hp HN hrg
  simp only at hp HN hrg
  obtain ⟨n, rfl⟩ : ∃ n : Nat, x = n := ⟨x.toNat, by omega⟩
  simp only [Int.toNat_natCast] at hp
  obtain ⟨ys, rest2, e2, ht⟩ : ∃ a b c, takeS rest e1 n = (a, b, c) := ⟨_, _, _, rfl⟩
  have HTK := Lib.hid (fun W h => vtake_any g rest e1 n W h (by omega))
  rw [ht] at hp HTK
  simp only at hp HTK
  have HP := Lib.hid hp
  clear hp ht hr hn hby
  obtain ⟨T, hT⟩ : ∃ T, textOf ys = T := ⟨_, rfl⟩
  have CV := Lib.hid (fun (W : World) (B : Nat) (X : Option Addr) (d : Nat) (h : Lies .u8 W B X ys) => conv_bytes (P := Tryd.prog) 25 9 5 Tryd.underlying25 Tryd.underlying5 Tryd.underlying9 h d)
  rw [hT] at CV
  have HT := Lib.hid hT
  clear hT
  go_enter Tryd.func51, Tryd.ntmps51
  go_wp2_with fail
  refine HN.out.mono ?_
  rintro en w1 ⟨rfl, hr1, hgr1⟩
  go_wp2_with fail
  refine (HTK.out w1 hr1).mono ?_
  rintro en w2 ⟨A, c, rfl, hc, hcm, hl, hr2, hgr2⟩
  have hcv := CV.out w2 g A c hl
  clear CV HN HTK hl hcm hrg
  go_wp2
  go_ret
  rw [← HP.out, HT.out]
  exact ⟨rfl, hr2, grown_trans hgr1 hgr2⟩
end Go.Proofs.YtaoflfdpagpgaaaDoor
