/- A contract of the document's own GetRecord. -/
import Derived.Test.YtffmfgbjlijpeaaDoorRPart
import Derived.Test.YtffmfgbjlijpeaaDoorRRight
import Derived.Test.YtffmfgbjlijpeaaDoorR1
import Derived.Handy
namespace Go.Proofs.YtffmfgbjlijpeaaDoor
open Go.RowKit

/-- What a reading of a record answers; nothing that was there is turned. -/
def TellsRec (p : Rec × Int × Int) (w : World) (e : Ending) (w' : World) : Prop := e = .returned (.tuple #[recV p.1, .int .i64 p.2.1, .int .i64 p.2.2]) ∧ Below w.heap.size w w'
theorem TellsRec.mk {p : Rec × Int × Int} {w w' : World} {r : Rec} {b c : Int} (h : p = (r, b, c)) (hb : Below w.heap.size w w') : TellsRec p w (.returned (.tuple #[.agg #[.int .i64 r.off, .int .i64 r.time, .string r.key, .string r.val, .bool r.dead], .int .i64 b, .int .i64 c])) w' := by subst h; exact ⟨rfl, hb⟩
theorem TellsRec.none {p : Rec × Int × Int} {w w' : World} {c : Int} (h : p = (zeroR, 0, c)) (hb : Below w.heap.size w w') : TellsRec p w (.returned (.tuple #[.agg #[.int .i64 0, .int .i64 0, .string ⟨#[]⟩, .string ⟨#[]⟩, .bool false], .int .i64 0, .int .i64 c])) w' := by subst h; exact ⟨rfl, hb⟩

theorem part_nat {bs : List Int} {i : Nat} {most : Int} {s : ByteArray} {j : Int} (hb : IsBytes bs) (hi : i ≤ bs.length) (h : partR bs i most = (s, j, 0)) : ∃ n : Nat, j = n ∧ n ≤ bs.length := by
  obtain ⟨hj, rest, hd⟩ := part_back hb hi h
  refine ⟨_, hj, ?_⟩
  have := congrArg List.length hd
  simp only [List.length_drop, List.length_append, ints_length] at this
  omega

set_option maxRecDepth 100000 in
set_option maxHeartbeats 8000000 in
theorem refgetrec_any (A : Option Addr) (xs : List Int) (c : Nat) (w : World) (hl : Lies .u8 w w.heap.size A xs) (hby : IsBytes xs) (hc : xs.length ≤ c) (hcm : c ≤ maxLen) :
    Calls Tryd.prog 49 #[.slice A xs.length c] w (TellsRec (getRec xs) w) := by
  have HCM := Lib.hid hcm
  unfold maxLen at hcm
  have hget := fun W (hb : Below w.heap.size w W) => refget_any A xs c W ((hl.below hb).more hb.size) hby
  have HPART := Lib.hid (fun W (hb : Below w.heap.size w W) i most hi hm0 hm1 => refpart_any A xs c i most W ((hl.below hb).more hb.size) hby hc HCM.out hi hm0 hm1)
  obtain ⟨p, hp⟩ : ∃ p, getRec xs = p := ⟨_, rfl⟩
  rw [hp]
  have HP := Lib.hid hp
  clear hp
  obtain ⟨x, k, e, hg⟩ : ∃ x k e, getR xs = (x, k, e) := ⟨_, _, _, rfl⟩
  rw [hg] at hget
  have HG := Lib.hid hg
  have HGET := Lib.hid hget
  have HL := Lib.hid hl
  clear hg hget hl
  go_enter Tryd.func49, Tryd.ntmps49
  go_wp2_with fail
  refine (HGET.out _ ?_).mono ?_
  · go_grown
  rintro e' w1 ⟨rfl, rfl⟩
  by_cases he : e = 0
  · subst he
    obtain ⟨n, m, rfl, rfl, hm, hm2, hn⟩ := getR_nat hby HG.out
    by_cases hbig : (1125899906842624 : Int) < (n : Int)
    · have HF := Lib.hid (show p = (zeroR, 0, 2) by
        rw [← HP.out]
        unfold getRec
        rw [HG.out]
        simp only
        rw [if_neg (by omega), if_pos hbig])
      go_wp2
      go_returns
      exact TellsRec.none HF.out (by go_grown)
    · have HP2 := Lib.hid (show getT xs n m = p by
        rw [← HP.out]
        unfold getRec
        rw [HG.out]
        simp only [Int.toNat_natCast]
        rw [if_neg (by omega), if_neg hbig])
      clear HP HG HGET
      by_cases hce : c = m
      · have hxm : xs.length = m := by omega
        have hxz : xs.length - m = 0 := by omega
        have HF := Lib.hid (show p = (zeroR, 0, 4) by
          rw [← HP2.out]
          unfold getT
          rw [List.drop_eq_nil_of_le (by omega)]
          rfl)
        subst hce
        clear hxm
        go_wp2_with fail
        refine (refget_any A [] 0 _ Lies.nil (fun _ h => by cases h)).mono ?_
        rintro e' w1 ⟨rfl, rfl⟩
        rw [show getR [] = (0, 0, 4) from rfl]
        go_wp2
        go_returns
        exact TellsRec.none HF.out (by go_grown)
      · have hmz : (m : Int) ≤ (xs.length : Int) := by omega
        have hbd : IsBytes (xs.drop m) := fun x hx => hby x (List.mem_of_mem_drop hx)
        have HGET2 := Lib.hid (fun W (hb : Below w.heap.size w W) => refget_any _ (xs.drop m) (c - m) W ((((HL.out.below hb).more hb.size)).cut (n := m) hc) hbd)
        obtain ⟨t, k2, e2, hg2⟩ : ∃ x k e, getR (xs.drop m) = (x, k, e) := ⟨_, _, _, rfl⟩
        have HG2 := Lib.hid hg2
        clear hg2
        go_wp2_with fail
        have hgg := HGET2.out
        rw [if_neg hce, List.length_drop, HG2.out] at hgg
        refine (hgg _ ?_).mono ?_
        · go_grown
        rintro e' w1 ⟨rfl, rfl⟩
        clear hgg HGET2
        by_cases he2 : e2 = 0
        · subst he2
          obtain ⟨n2, m2, rfl, rfl, hm3, hm4, hn2⟩ := getR_nat hbd HG2.out
          rw [List.length_drop] at hm3
          obtain ⟨tv, htv⟩ : ∃ tv, unfoldI (n2 : Int) = tv := ⟨_, rfl⟩
          have hur := unfold_range (n2 : Int) (by omega) hn2
          rw [htv] at hur
          have HU := Lib.hid (fun W => refunfold_any (n2 : Int) W (by omega) hn2)
          have HTV := Lib.hid htv
          clear htv
          go_wp2_with fail
          have huu := HU.out
          rw [HTV.out] at huu
          refine (huu _).mono ?_
          rintro e' w1 ⟨rfl, rfl⟩
          clear huu HU
          by_cases hlow : tv < -1099511627776
          · have HF := Lib.hid (show p = (zeroR, 0, 2) by
              rw [← HP2.out]
              unfold getT
              rw [HG2.out]
              simp only
              rw [HTV.out, if_neg (by omega), if_pos (.inl hlow)])
            go_wp2
            go_returns
            exact TellsRec.none HF.out (by go_grown)
          by_cases hhigh : (1099511627776 : Int) < tv
          · have HF := Lib.hid (show p = (zeroR, 0, 2) by
              rw [← HP2.out]
              unfold getT
              rw [HG2.out]
              simp only
              rw [HTV.out, if_neg (by omega), if_pos (.inr hhigh)])
            go_wp2
            go_returns
            exact TellsRec.none HF.out (by go_grown)
          have HP3 := Lib.hid (show getD xs n tv (m + m2) = p by
            rw [← HP2.out]
            unfold getT
            rw [HG2.out]
            simp only [Int.toNat_natCast]
            rw [HTV.out, if_neg (by omega), if_neg (by omega)])
          clear HP2 HG2 HTV
          by_cases hend : (xs.length : Int) ≤ (m : Int) + (m2 : Int)
          · have HF := Lib.hid (show p = (zeroR, 0, 4) by
              rw [← HP3.out]
              unfold getD
              rw [if_pos (by omega)])
            go_wp2
            go_returns
            exact TellsRec.none HF.out (by go_grown)
          have hjl : m + m2 < xs.length := by omega
          obtain ⟨bb, off, rfl, hbl, hcell⟩ := HL.out.at_ hjl
          obtain ⟨hq0, hq1⟩ := hby _ (List.getElem_mem hjl)
          obtain ⟨q, hq⟩ : ∃ q, xs[m + m2] = q := ⟨_, rfl⟩
          rw [hq] at hcell hq0 hq1
          have HQ := Lib.hid (show xs.getD (m + m2) 0 = q by rw [← hq]; simp [List.getD, hjl])
          clear hq
          by_cases hq2 : 1 < q
          · have HF := Lib.hid (show p = (zeroR, 0, 2) by
              rw [← HP3.out]
              unfold getD
              rw [HQ.out, if_neg (by omega), if_pos hq2])
            go_wp2
            go_returns
            exact TellsRec.none HF.out (by go_grown)
          have HP4 := Lib.hid (show getB xs n tv (q == 1) (m + m2 + 1) = p by
            rw [← HP3.out]
            unfold getD
            rw [HQ.out, if_neg (by omega), if_neg hq2])
          clear HP3 HQ
          obtain ⟨dd, hdd⟩ : ∃ dd, (q == 1) = dd := ⟨_, rfl⟩
          rw [hdd] at HP4
          obtain ⟨key, j, e3, hp3⟩ : ∃ a b c, partR xs (m + m2 + 1) 200 = (a, b, c) := ⟨_, _, _, rfl⟩
          have HP3 := Lib.hid hp3
          clear hp3
          have hpa := fun W hb => HPART.out W hb (m + m2 + 1) 200 (by omega) (by omega) (by omega)
          rw [HP3.out, show ((m + m2 + 1 : Nat) : Int) = (m : Int) + (m2 : Int) + 1 by omega] at hpa
          have HPA := Lib.hid hpa
          clear hpa
          go_wp2_with fail
          refine (HPA.out _ ?_).mono ?_
          · go_grown
          rintro e' w1 ⟨rfl, rfl⟩
          clear HPA
          by_cases he3 : e3 = 0
          · subst he3
            obtain ⟨j1, rfl, hj1⟩ := part_nat hby (by omega) HP3.out
            obtain ⟨val, j2, e4, hp4⟩ : ∃ a b c, partR xs j1 2000 = (a, b, c) := ⟨_, _, _, rfl⟩
            have HP5 := Lib.hid hp4
            clear hp4
            have hpa := fun W hb => HPART.out W hb j1 2000 hj1 (by omega) (by omega)
            rw [HP5.out] at hpa
            have HPA := Lib.hid hpa
            clear hpa
            go_wp2_with fail
            refine (HPA.out _ ?_).mono ?_
            · go_grown
            rintro e' w1 ⟨rfl, rfl⟩
            clear HPA HPART
            by_cases he4 : e4 = 0
            · subst he4
              have hrr := refright_any_at ⟨n, tv, key, val, dd⟩
              unfold recV at hrr
              simp only at hrr
              have HRR := Lib.hid hrr
              clear hrr
              go_wp2_with fail
              refine (HRR.out _).mono ?_
              rintro e' w1 ⟨rfl, rfl⟩
              clear HRR
              by_cases hR : (⟨n, tv, key, val, dd⟩ : Rec).right
              · have HF := Lib.hid (show p = (⟨n, tv, key, val, dd⟩, j2, 0) by
                  rw [← HP4.out]
                  unfold getB
                  rw [HP3.out]
                  simp only [Int.toNat_natCast]
                  rw [HP5.out]
                  simp only
                  rw [if_neg (by omega), if_neg (by omega), if_pos hR])
                rw [decide_eq_true hR]
                clear hR
                go_wp2
                go_returns
                exact TellsRec.mk HF.out (by go_grown)
              · have HF := Lib.hid (show p = (zeroR, 0, 2) by
                  rw [← HP4.out]
                  unfold getB
                  rw [HP3.out]
                  simp only [Int.toNat_natCast]
                  rw [HP5.out]
                  simp only
                  rw [if_neg (by omega), if_neg (by omega), if_neg hR])
                rw [decide_eq_false hR]
                clear hR
                go_wp2
                go_returns
                exact TellsRec.none HF.out (by go_grown)
            · have HF := Lib.hid (show p = (zeroR, 0, e4) by
                rw [← HP4.out]
                unfold getB
                rw [HP3.out]
                simp only [Int.toNat_natCast]
                rw [HP5.out]
                simp only
                rw [if_neg (by omega), if_pos he4])
              have heb : (e4 != 0) = true := by simpa using he4
              go_wp2
              go_returns
              exact TellsRec.none HF.out (by go_grown)
          · have HF := Lib.hid (show p = (zeroR, 0, e3) by
              rw [← HP4.out]
              unfold getB
              rw [HP3.out]
              simp only
              rw [if_pos he3])
            have heb : (e3 != 0) = true := by simpa using he3
            go_wp2
            go_returns
            exact TellsRec.none HF.out (by go_grown)
        · have HF := Lib.hid (show p = (zeroR, 0, e2) by
            rw [← HP2.out]
            unfold getT
            rw [HG2.out]
            simp only
            rw [if_pos he2])
          have heb : (e2 != 0) = true := by simpa using he2
          go_wp2
          go_returns
          exact TellsRec.none HF.out (by go_grown)
  · have HF := Lib.hid (show p = (zeroR, 0, e) by
      rw [← HP.out]
      unfold getRec
      rw [HG.out]
      simp only
      rw [if_pos he])
    have heb : (e != 0) = true := by simpa using he
    go_wp2
    go_returns
    exact TellsRec.none HF.out (by go_grown)
end Go.Proofs.YtffmfgbjlijpeaaDoor
