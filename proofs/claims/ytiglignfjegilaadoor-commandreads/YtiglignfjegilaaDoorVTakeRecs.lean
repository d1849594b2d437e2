/- A contract of the program's own takeRecords: so many records that bytes begin with, put into a command. -/
import Derived.Test.YtiglignfjegilaaDoorVWipe
import Derived.Test.YtiglignfjegilaaDoorRecProg
import Derived.Test.YtiglignfjegilaaDoorCmdBack
namespace Go.Proofs.YtiglignfjegilaaDoor
open Go.RowKit

/-- What stood below X, but in block g, stands there still. -/
structure AsideG (X g : Nat) (w w' : World) : Prop where
  os : w'.os = w.os
  tape : w'.tape = w.tape
  output : w'.output = w.output
  size : w.heap.size ≤ w'.heap.size
  block : ∀ k, k < X → k ≠ g → w'.heap[k]? = w.heap[k]?
theorem AsideG.refl (X g : Nat) (w : World) : AsideG X g w w := ⟨rfl, rfl, rfl, Nat.le_refl _, fun _ _ _ => rfl⟩
theorem AsideG.trans {X g : Nat} {a b c : World} (h : AsideG X g a b) (k : AsideG X g b c) : AsideG X g a c :=
  ⟨k.os.trans h.os, k.tape.trans h.tape, k.output.trans h.output, Nat.le_trans h.size k.size, fun i h1 h2 => (k.block i h1 h2).trans (h.block i h1 h2)⟩
theorem AsideG.of_below {X g B : Nat} {w w' : World} (h : Below B w w') (hX : X ≤ B) : AsideG X g w w' := ⟨h.os, h.tape, h.output, h.size, fun k hk _ => h.block k (Nat.lt_of_lt_of_le hk hX)⟩
theorem AsideG.of_grown {X g : Nat} {w w' : World} (h : w.grownBy w' (some g)) (hX : X ≤ w.heap.size) : AsideG X g w w' :=
  ⟨h.os, h.tape, h.output, h.size, fun k hk hn => h.block k (Nat.lt_of_lt_of_le hk hX) (fun e => hn (Option.some.inj e))⟩
theorem AsideG.lies {X g B : Nat} {w w' : World} {k : IntKind} {A : Option Addr} {xs : List Int} (h : AsideG X g w w') (hl : Lies k w B A xs) (h1 : B ≤ X) (h2 : B ≤ g) : Lies k w' B A xs :=
  hl.keep fun b o hb => World.cell?_of_block (a := ⟨b, o, none⟩) (h.block b (Nat.lt_of_lt_of_le hb h1) (Nat.ne_of_lt (Nat.lt_of_lt_of_le hb h2)))
theorem ownr_form {w : World} {base : Nat} {v : Value} {rs : List Rec} (h : OwnR w base v rs) : ∃ A L c, v = .slice A L c := by
  rcases h.2 with ⟨rfl, _⟩ | ⟨g, cap, cur, rfl, _⟩
  · exact ⟨_, _, _, rfl⟩
  · exact ⟨_, _, _, rfl⟩
/-- What takeRecords answers. -/
def TookRecs (B X g : Nat) (c : Cmd) (o : Option (List Rec × List Int)) (w : World) (e : Ending) (w' : World) : Prop :=
  AsideG X g w w' ∧ ((o = none ∧ e = .returned (.tuple #[.slice none 0 0, .bool false]) ∧ ∃ v' rs', w'.heap[g]? = some (cmdO v' { c with recs := rs' })) ∨
    ∃ rs ys A' cap' v', o = some (rs, ys) ∧ e = .returned (.tuple #[.slice A' ys.length cap', .bool true]) ∧ Lies .u8 w' B A' ys ∧ ys.length ≤ cap' ∧ cap' ≤ maxLen ∧ (A' = none → cap' = 0) ∧
      w'.heap[g]? = some (cmdO v' { c with recs := c.recs ++ rs }) ∧ OwnR w' X v' (c.recs ++ rs))
theorem getRecs_succ {n : Nat} {xs : List Int} {r : Rec} {k : Int} (h : getRec xs = (r, k, 0)) : getRecs (n + 1) xs = (getRecs n (xs.drop k.toNat)).map fun p => (r :: p.1, p.2) := by
  show (if (getRec xs).2.2 = 0 then _ else _) = _
  rw [h, if_pos rfl]
theorem getRecs_fail {n : Nat} {xs : List Int} {r : Rec} {k e : Int} (h : getRec xs = (r, k, e)) (he : e ≠ 0) : getRecs (n + 1) xs = none := by
  show (if (getRec xs).2.2 = 0 then _ else _) = _
  rw [h, if_neg he]
theorem getRecs_step {n j : Nat} {ys : List Int} {o : Option (List Rec × List Int)} {rs : List Rec} {r : Rec} {k : Int} (ho : o = (getRecs (n - j) ys).map fun p => (rs ++ p.1, p.2)) (hj : j < n) (h : getRec ys = (r, k, 0)) :
    o = (getRecs (n - (j + 1)) (ys.drop k.toNat)).map fun p => (rs ++ [r] ++ p.1, p.2) := by
  rw [ho, show n - j = (n - (j + 1)) + 1 by omega, getRecs_succ h, Option.map_map]
  congr 1
  funext p
  simp
theorem getRecs_over {n j : Nat} {ys : List Int} {o : Option (List Rec × List Int)} {rs : List Rec} {r : Rec} {k e : Int} (ho : o = (getRecs (n - j) ys).map fun p => (rs ++ p.1, p.2)) (hj : j < n) (h : getRec ys = (r, k, e)) (he : e ≠ 0) : o = none := by
  rw [ho, show n - j = (n - (j + 1)) + 1 by omega, getRecs_fail h he]
  rfl
section
variable {w : World} {o : Oper} {a : Act} {Q : Exit → Act → World → Prop} {K : Act → World → Prop}
/-- append of one record, which the walk has laid in the newest block: the operation by itself. -/
theorem wp_append_rec (s x : Operand) (ho : o.op = .call { callee := .builtin .append, args := #[s, x], argTypes := #[22, 22] })
    (base : Nat) (v : Value) (rs : List Rec) (hs : a.eval s = v) (W : World) (r : Rec) (hw : w = W.alloc (.cells #[.int .i64 r.off, .int .i64 r.time, .string r.key, .string r.val, .bool r.dead] 39)) (hown : OwnR W base v rs) (hx : a.eval x = .slice (some ⟨W.heap.size, 0, none⟩) 1 1)
    (hb : rs.length + 1 ≤ 1099511627776) (hbase : base ≤ W.heap.size)
    (h : ∀ v' w', OwnR w' base v' (rs ++ [r]) → Below base W w' → w.grownBy w' v.ownBlock → K (a.put o.dst v') w') : o.wp Tryd.prog a w K Q := by
  subst hw
  obtain ⟨i, hi, hi2⟩ := Option.map_eq_some_iff.1 rec_info
  obtain ⟨i', hi', hi3⟩ := Option.map_eq_some_iff.1 rec_bytes
  obtain rfl := Option.some.inj (hi.symm.trans hi')
  simp only [Prod.mk.injEq] at hi2
  have hby := of_decide_eq_true hi3
  have hown' : (W.alloc (.cells #[.int .i64 r.off, .int .i64 r.time, .string r.key, .string r.val, .bool r.dead] 39)).ownsRow base 39 5 v rs.length (recsCells rs) := World.ownsRow.alloc hown _
  obtain ⟨v', w', hrun, h2, h3, _, _⟩ := run_append_own_at (P := Tryd.prog) (W.alloc (.cells #[.int .i64 r.off, .int .i64 r.time, .string r.key, .string r.val, .bool r.dead] 39)) base 22 o.type 39 i _ 5 i.bytes Tryd.underlying22 hi hi2.1 hi2.2 rfl rfl (by omega) v rs.length (recsCells rs) hown' ⟨W.heap.size, 0, none⟩ 1 1 (recCells r) rfl
    (fun j u hu => by
      rw [add_lit, Nat.zero_add]
      have hj : j = 0 ∨ j = 1 ∨ j = 2 ∨ j = 3 ∨ j = 4 := by
        have : j < 5 := by
          rcases Nat.lt_or_ge j 5 with h | h
          · exact h
          · rw [List.getElem?_eq_none (by simpa [recCells] using h)] at hu; cases hu
        omega
      rcases hj with rfl | rfl | rfl | rfl | rfl <;> (simp only [recCells, List.getElem?_cons_zero, List.getElem?_cons_succ, Option.some.injEq] at hu; subst hu; simp)) (recCells_one r)
    (by simp only [maxLen]; omega) (by have := Nat.mul_le_mul_left (rs.length + 1) hby; omega) (by simp; omega)
  have hfin : OwnR w' base v' (rs ++ [r]) := by
    unfold OwnR
    rw [List.length_append]
    have e : recsCells (rs ++ [r]) = recsCells rs ++ recCells r := by
      unfold recsCells
      rw [List.flatMap_append]
      simp
    rw [e]
    exact h2
  have hbel := (hown.alloc (.cells #[.int .i64 r.off, .int .i64 r.time, .string r.key, .string r.val, .bool r.dead] 39)).grown_below h3 (by simp; omega)
  unfold Oper.wp execOp
  simp only [ho, resolve, invoke, builtin, Sem.run_bind, Sem.run_pure, Result.andThen_ok, List.map_toArray, List.map_cons, List.map_nil, hs, hx, hrun]
  exact h v' w' hfin (((Below.refl _ _).alloc hbase _).trans hbel) h3
end
set_option maxHeartbeats 3200000 in
theorem takerecs_any (w : World) (B X g : Nat) (hBg : B ≤ g) (hgX : g < X) (hXw : X ≤ w.heap.size) (v : Value) (c : Cmd) (h : w.heap[g]? = some (cmdO v c)) (ho : OwnR w X v c.recs) (hrl : c.recs.length ≤ 1000000)
    (A : Option Addr) (xs : List Int) (cap : Nat) (hl : Lies .u8 w B A xs) (hby : IsBytes xs) (hc : xs.length ≤ cap) (hcm : cap ≤ maxLen) (hA : A = none → cap = 0) (n : Nat) (hn : (n : Int) ≤ 18446744073709551615) :
    Calls Tryd.prog 38 #[.slice A xs.length cap, .int .u64 (n : Int), .pointer (some ⟨g, 3, none⟩)] w (TookRecs B X g c (if 50 < n then none else getRecs n xs) w) := by
  by_cases h50 : 50 < n
  · rw [if_pos h50]
    have hq : decide ((50 : Int) < (n : Int)) = true := decide_eq_true (by omega)
    have hq2 : decide (50 < n) = true := decide_eq_true h50
    have HH := Lib.hid h
    clear h ho hl hby hA h50
    go_enter Tryd.func38, Tryd.ntmps38
    go_wp2_with fail
    go_ret2
    exact ⟨AsideG.refl _ _ _, .inl ⟨rfl, rfl, v, c.recs, HH.out⟩⟩
  · have hn50 : n ≤ 50 := Nat.le_of_not_lt h50
    rw [if_neg h50]
    have hq : decide ((50 : Int) < (n : Int)) = false := decide_eq_false (by omega)
    have hq2 : decide (50 < n) = false := decide_eq_false h50
    obtain ⟨O, hO⟩ : ∃ O, getRecs n xs = O := ⟨_, rfl⟩
    have hst : O = (getRecs (n - 0) xs).map fun p => (([] : List Rec) ++ p.1, p.2) := by
      rw [Nat.sub_zero, hO]
      cases O <;> simp
    rw [hO]
    have HIN := Lib.hid (And.intro hBg (And.intro hgX hXw))
    have HH := Lib.hid h
    have HO := Lib.hid ho
    have HL := Lib.hid hl
    have HBY := Lib.hid hby
    have HC := Lib.hid (And.intro hc (And.intro hcm hA))
    have HST := Lib.hid hst
    have HRL := Lib.hid hrl
    have HNN := Lib.hid hn50
    clear h50 hO hst h ho hl hby hA hBg hgX hXw hrl hn
    go_enter Tryd.func38, Tryd.ntmps38
    go_wp2_with fail
    go_loopw [0, 14] (fun bv iv wr => ∃ (j : Nat) (rs : List Rec) (ys : List Int) (A' : Option Addr) (cap' : Nat) (v' : Value), iv = .int .u64 j ∧ bv = .slice A' ys.length cap' ∧ j ≤ n ∧ rs.length = j ∧ O = (getRecs (n - j) ys).map (fun p => (rs ++ p.1, p.2)) ∧ Lies .u8 wr B A' ys ∧ IsBytes ys ∧ ys.length ≤ cap' ∧ cap' ≤ maxLen ∧ (A' = none → cap' = 0) ∧ wr.heap[g]? = some (cmdO v' { c with recs := c.recs ++ rs }) ∧ OwnR wr X v' (c.recs ++ rs) ∧ AsideG X g w wr) (fun _ iv _ => n - (intOf iv).toNat)
    case atStart => exact ⟨0, [], xs, A, cap, v, rfl, rfl, Nat.zero_le _, rfl, HST.out, HL.out, HBY.out, HC.out.1, HC.out.2.1, HC.out.2.2, by rw [List.append_nil]; exact HH.out, by rw [List.append_nil]; exact HO.out, AsideG.refl _ _ _⟩
    case round =>
      obtain ⟨j, rs, ys, A', cap', v', rfl, rfl, hj, hrs, hst, hl, hby, hc, hcm, hA, hbl, hown, hasd⟩ := hrel
      have HL := Lib.hid hl
      have HBY := Lib.hid hby
      have HBL := Lib.hid hbl
      have HOW := Lib.hid hown
      have HAS := Lib.hid hasd
      have HS := Lib.hid hst
      have HA := Lib.hid hA
      have HRS := Lib.hid hrs
      by_cases hlt : j < n
      · have hBw : B ≤ wr.heap.size := by have := hasd.size; have := HIN.out; omega
        have HG := Lib.hid (rget_any A' ys cap' wr (hl.more hBw) hby hc hcm)
        obtain ⟨r, k, e, hr⟩ : ∃ r k e, getRec ys = (r, k, e) := ⟨_, _, _, rfl⟩
        rw [hr] at HG
        have HR := Lib.hid hr
        obtain ⟨xo, xt, xk, xv, xd⟩ := r
        unfold TellsRec recV at HG
        dsimp only at HG
        clear hl hbl hown hasd hst hA hr hrs
        by_cases he : e = 0
        · subst he
          obtain ⟨_, hk, rest, hsp⟩ := getRec_back hby HR.out
          obtain ⟨m, hm⟩ : ∃ m, (recL (⟨xo, xt, xk, xv, xd⟩ : Rec)).length = m := ⟨_, rfl⟩
          rw [hm] at hk
          subst hk
          have hml : m ≤ ys.length := by rw [hsp, List.length_append, hm]; omega
          have hm1 : 1 ≤ m := by
            have := (putL_length xo).1
            rw [← hm]
            show 1 ≤ (putL xo ++ _).length
            rw [List.length_append]
            omega
          have hy0 : 0 < ys.length := by omega
          obtain ⟨bA, oA, rfl, hx1, hx2⟩ := HL.out.at_ hy0
          have hmi : (m : Int).toNat = m := Int.toNat_natCast m
          have HST2 : Hid (O = (getRecs (n - (j + 1)) (ys.drop m)).map fun p => (rs ++ [⟨xo, xt, xk, xv, xd⟩] ++ p.1, p.2)) := Lib.hid (by
            have := getRecs_step HS.out hlt HR.out
            rw [hmi] at this
            exact this)
          clear hx1 hx2
          clear hsp hm hmi hm1 hy0 hby
          go_wp2_with (go_at_call 44; refine HG.out.mono ?_; rintro e w2 ⟨rfl, hb2⟩; refine Hid.out ?_)
          refine Lib.hid ?_
          have HB2 := Lib.hid hb2
          clear hb2 HG
          have hz2 := HB2.out.size
          have hgw : g < wr.heap.size := (Array.getElem?_eq_some_iff.1 HBL.out).1
          have hXr : X ≤ wr.heap.size := Nat.le_trans HIN.out.2.2 HAS.out.size
          have HBA := Lib.hid (HB2.out.trans ((Below.refl w2.heap.size w2).alloc (Nat.le_refl _) (.cells #[.int .i64 xo, .int .i64 xt, .string xk, .string xv, .bool xd] 39) |>.mono hz2))
          have HBL2 := Lib.hid (block_keep HBL.out HBA.out)
          have HOW2 := Lib.hid (HOW.out.below HBA.out)
          have HAS2 := Lib.hid (HAS.out.trans (AsideG.of_below HBA.out hXr))
          have HL2 := Lib.hid ((HL.out.more hBw).below HBA.out)
          have HL2 : Hid (Lies .u8 (w2.alloc (.cells #[.int .i64 xo, .int .i64 xt, .string xk, .string xv, .bool xd] 39)) B (some ⟨bA, oA, none⟩) ys) := Lib.hid (HL.out.keep fun b o hb => HBA.out.cell (p := ⟨b, o, none⟩) (Nat.lt_of_lt_of_le hb hBw))
          have hRb : (w2.alloc (.cells #[.int .i64 xo, .int .i64 xt, .string xk, .string xv, .bool xd] 39)).heap[w2.heap.size]? = some (.cells #[.int .i64 xo, .int .i64 xt, .string xk, .string xv, .bool xd] 39) := by
            show (w2.heap.push _)[w2.heap.size]? = _
            simp
          have hRs : w2.heap.size < (w2.alloc (.cells #[.int .i64 xo, .int .i64 xt, .string xk, .string xv, .bool xd] 39)).heap.size := by simp
          have HXR : Hid (X ≤ w2.heap.size ∧ g < w2.heap.size ∧ ∀ q, v'.ownBlock = some q → q < w2.heap.size) := Lib.hid ⟨Nat.le_trans hXr hz2, Nat.lt_of_lt_of_le hgw hz2, fun q hq => Nat.lt_of_lt_of_le (HOW.out.lt q hq).2 hz2⟩
          obtain ⟨W2, hW2⟩ : ∃ W2, w2.alloc (.cells #[.int .i64 xo, .int .i64 xt, .string xk, .string xv, .bool xd] 39) = W2 := ⟨_, rfl⟩
          rw [hW2] at HBA HBL2 HOW2 HAS2 HL2 hRb hRs
          have hSof : ∀ W' : World, W'.heap[w2.heap.size]? = W2.heap[w2.heap.size]? → (W'.cell? ⟨w2.heap.size, 0, none⟩ = some (.int .i64 xo) ∧ W'.cell? ⟨w2.heap.size, 1, none⟩ = some (.int .i64 xt) ∧ W'.cell? ⟨w2.heap.size, 2, none⟩ = some (.string xk) ∧ W'.cell? ⟨w2.heap.size, 3, none⟩ = some (.string xv) ∧ W'.cell? ⟨w2.heap.size, 4, none⟩ = some (.bool xd)) := fun W' hW => by
            rw [hRb] at hW
            refine ⟨?_, ?_, ?_, ?_, ?_⟩ <;> simp [World.cell?, hW]
          have g3 := (cmd_at HBL2.out).2.2.2.1
          have HSO := Lib.hid hSof
          have HRS2 := Lib.hid hRs
          have hgW : g < W2.heap.size := (Array.getElem?_eq_some_iff.1 HBL2.out).1
          have g3b := fun O => (World.cell?_alloc_lt W2 O ⟨g, 3, none⟩ hgW).trans g3
          clear hz2 hgw hXr hRb hRs hSof HL HBL HOW HAS
          go_upto_region 8 with fail
          clear hW2
          generalize hR : w2.heap.size = R at *
          refine wp_region_held_drew (S := fun W' => W'.cell? ⟨R, 0, none⟩ = some (.int .i64 xo) ∧ W'.cell? ⟨R, 1, none⟩ = some (.int .i64 xt) ∧ W'.cell? ⟨R, 2, none⟩ = some (.string xk) ∧ W'.cell? ⟨R, 3, none⟩ = some (.string xv) ∧ W'.cell? ⟨R, 4, none⟩ = some (.bool xd)) (by kernel_rfl) (HSO.out W2.drew rfl) (fun hHeld => ?_)
          refine held_take 0 24 (v := ?v1) rfl rfl (by kernel_rfl) (by kernel_rfl) (by kernel_rfl) (fun _ _ _ h => h) hHeld (Or.inl ⟨by rfl, ?y1⟩) ?r1
          case y1 => intro w hSw; (try dsimp only at hSw); go_simp; (try with_reducible rfl)
          simp only [List.setIfInBounds_toArray, List.set_cons_zero, List.set_cons_succ]
          refine held_take 1 25 (v := ?v2) rfl rfl (by kernel_rfl) (by kernel_rfl) (by kernel_rfl) (fun _ _ _ h => h) hHeld (Or.inl ⟨by rfl, ?y2⟩) ?r2
          case y2 => intro w hSw; (try dsimp only at hSw); go_simp; (try with_reducible rfl)
          simp only [List.setIfInBounds_toArray, List.set_cons_zero, List.set_cons_succ]
          refine held_take 2 26 (v := ?v3) rfl rfl (by kernel_rfl) (by kernel_rfl) (by kernel_rfl) (fun _ _ _ h => h) hHeld (Or.inl ⟨by rfl, ?y3⟩) ?r3
          case y3 => intro w hSw; (try dsimp only at hSw); go_simp; (try with_reducible rfl)
          simp only [List.setIfInBounds_toArray, List.set_cons_zero, List.set_cons_succ]
          refine held_take 4 28 (v := ?v4) rfl rfl (by kernel_rfl) (by kernel_rfl) (by kernel_rfl) (fun _ _ _ h => h) hHeld (Or.inl ⟨by rfl, ?y4⟩) ?r4
          case y4 => intro w hSw; (try dsimp only at hSw); go_simp; (try with_reducible rfl)
          simp only [List.setIfInBounds_toArray, List.set_cons_zero, List.set_cons_succ]
          refine wpAnyH_ready (rs := [3, 5]) (by kernel_rfl) (by simp) ?_
          refine AllReadyH.cons (o := ⟨some 27, _, _, _, _, _⟩) rfl (fun K hK => ?_) (AllReadyH.cons (o := ⟨some 29, _, _, _, _, _⟩) rfl (fun K hK => ?_) AllReadyH.nil)
          · rw [if_pos (by rfl)]
            go_simp
            refine hK.out _ _ hHeld (fun hHeld => ?_)
            clear hK K
            (try simp only [Act.put, List.setIfInBounds_toArray, List.set_cons_zero, List.set_cons_succ])
            refine wpAnyH_ready (rs := [5]) (by kernel_rfl) (by simp) ?_
            refine AllReadyH.cons (o := ⟨some 29, _, _, _, _, _⟩) rfl (fun K hK => ?_) AllReadyH.nil
            rw [if_pos (by rfl)]
            go_simp
            refine hK.out _ _ (HSO.out _ (Below.heap_alloc W2 _ R HRS2.out)) (fun hHeld => ?_)
            clear hK K
            (try simp only [Act.put, List.setIfInBounds_toArray, List.set_cons_zero, List.set_cons_succ])
            refine wpAnyH_ready (rs := [6]) (by kernel_rfl) (by simp) ?_
            refine AllReadyH.cons (o := ⟨some 30, _, _, _, _, _⟩) rfl (fun K hK => ?_) AllReadyH.nil
            rw [if_pos (by rfl)]
            refine wp_append_rec (.tmp 27) (.tmp 29) rfl X v' (c.recs ++ rs) rfl W2.drew ⟨xo, xt, xk, xv, xd⟩ rfl HOW2.out rfl (by rw [List.length_append]; have := HRL.out; have := HRS.out; have := HNN.out; omega) (Nat.le_trans HXR.out.1 (Nat.le_of_lt HRS2.out)) ?_
            intro v5 w5 hown5 hb5 hgr5
            obtain ⟨A5, L5, q5, rfl⟩ := ownr_form hown5
            have hR5 : w5.heap[R]? = W2.heap[R]? := (hgr5.block R (by show R < (W2.alloc _).heap.size; simp; have := HRS2.out; omega) (fun e => Nat.lt_irrefl _ (HXR.out.2.2 R e.symm))).trans (Below.heap_alloc W2 _ R HRS2.out)
            have hg5 : w5.heap[g]? = some (cmdO v' { c with recs := c.recs ++ rs }) := (hb5.block g HIN.out.2.1).trans HBL2.out
            have HO5 := Lib.hid hown5
            have HB5 : Hid (Below X W2 w5) := Lib.hid ⟨hb5.os, hb5.tape, hb5.output, hb5.size, hb5.block⟩
            refine hK.out _ _ (HSO.out _ hR5) (fun hHeld => ?_)
            clear hK K hown5 hb5 hgr5
            (try simp only [Act.put, List.setIfInBounds_toArray, List.set_cons_zero, List.set_cons_succ])
            refine held_take 7 31 (v := ?v5) rfl rfl (by kernel_rfl) (by kernel_rfl) (by kernel_rfl) (fun _ _ _ h => h) hHeld (Or.inl ⟨by rfl, ?y5⟩) ?r5
            case y5 => intro w hSw; (try dsimp only at hSw); go_simp; (try with_reducible rfl)
            simp only [List.setIfInBounds_toArray, List.set_cons_zero, List.set_cons_succ]
            have c5 := (cmd_at hg5).2.2.2.1
            have f5 : w5.frozen? ⟨g, 3, none⟩ = false := frozen_of_row _ g 3 _ _ hg5
            have hR6 : (w5.setCell ⟨g, 3, none⟩ (.slice A5 L5 q5)).heap[R]? = W2.heap[R]? := (heap_setCell_other w5 ⟨g, 3, none⟩ R (.slice A5 L5 q5) (Nat.ne_of_gt HXR.out.2.1)).trans hR5
            have HG6 : Hid ((w5.setCell ⟨g, 3, none⟩ (.slice A5 L5 q5)).heap[g]? = some (cmdO (.slice A5 L5 q5) { c with recs := c.recs ++ (rs ++ [⟨xo, xt, xk, xv, xd⟩]) })) := Lib.hid ((heap_setCell_same _ _ _ _ _ _ hg5).trans rfl)
            refine wpAnyH_ready (rs := [8]) (by kernel_rfl) (by simp) ?_
            refine AllReadyH.cons (o := ⟨none, _, _, _, _, _⟩) rfl (fun K hK => ?_) AllReadyH.nil
            rw [if_pos (by rfl)]
            go_simp
            refine hK.out _ _ (HSO.out _ hR6) (fun _ => ?_)
            clear hK K
            refine wpAnyH_done (by kernel_rfl) ?_ _
            have HW6 : Hid (w5.grownBy (w5.setCell ⟨g, 3, none⟩ (.slice A5 L5 q5)) (some g)) := Lib.hid (grown_set w5 g 3 (.slice A5 L5 q5))
            have HO6 : Hid (OwnR (w5.setCell ⟨g, 3, none⟩ (.slice A5 L5 q5)) X (.slice A5 L5 q5) (c.recs ++ (rs ++ [⟨xo, xt, xk, xv, xd⟩]))) := Lib.hid (by
              rw [← List.append_assoc]
              exact HO5.out.kept HW6.out (.inr fun e => Nat.lt_irrefl _ (Nat.lt_of_lt_of_le HIN.out.2.1 (HO5.out.lt g e).1)))
            have HA5 : Hid (AsideG X g W2 w5) := Lib.hid (AsideG.of_below HB5.out (Nat.le_refl _))
            have HA6 := Lib.hid (HA5.out.trans (AsideG.of_grown HW6.out (Nat.le_trans (Nat.le_trans HXR.out.1 (Nat.le_of_lt HRS2.out)) HB5.out.size)))
            have HL6 := Lib.hid (HA6.out.lies HL2.out (Nat.le_trans HIN.out.1 (Nat.le_of_lt HIN.out.2.1)) HIN.out.1)
            have HLC := Lib.hid (HL6.out.cut (n := m) hc)
            generalize w5.setCell ⟨g, 3, none⟩ (.slice A5 L5 q5) = w6 at *
            clear c5 f5 hg5 hR5 hR6 g3 g3b hgW HO5
            by_cases hcn : cap' = m
            · have HX := HLC.out
              rw [if_pos hcn] at HX
              have HX2 := Lib.hid HX
              clear HX
              go_wp2_with fail
              go_roundw
              case rel => exact ⟨j + 1, rs ++ [⟨xo, xt, xk, xv, xd⟩], ys.drop m, some ⟨bA, oA, none⟩, cap' - m, .slice A5 L5 q5, by first | rfl | go_num, by first | (rw [List.length_drop]; done) | (rw [List.length_drop]; first | rfl | (congr 1 <;> omega)), hlt, by rw [List.length_append, HRS.out]; rfl, HST2.out, HX2.out, fun q hq => HBY.out q (List.mem_of_mem_drop hq), by rw [List.length_drop]; omega, by omega, by simp, HG6.out, HO6.out, HAS2.out.trans HA6.out⟩
              case measure => simp [intOf]; omega
            · have HX := HLC.out
              rw [if_neg hcn] at HX
              have HX2 : Hid (Lies .u8 w6 B (some ⟨bA, oA + m, none⟩) (ys.drop m)) := Lib.hid (by simpa [add_lit] using HX)
              clear HX
              go_wp2_with fail
              go_roundw
              case rel => exact ⟨j + 1, rs ++ [⟨xo, xt, xk, xv, xd⟩], ys.drop m, some ⟨bA, oA + m, none⟩, cap' - m, .slice A5 L5 q5, by first | rfl | go_num, by first | (rw [List.length_drop]; done) | (rw [List.length_drop]; first | rfl | (congr 1 <;> omega)), hlt, by rw [List.length_append, HRS.out]; rfl, HST2.out, HX2.out, fun q hq => HBY.out q (List.mem_of_mem_drop hq), by rw [List.length_drop]; omega, by omega, by simp, HG6.out, HO6.out, HAS2.out.trans HA6.out⟩
              case measure => simp [intOf]; omega
          · rw [if_pos (by rfl)]
            go_simp
            refine hK.out _ _ (HSO.out _ (Below.heap_alloc W2 _ R HRS2.out)) (fun hHeld => ?_)
            clear hK K
            (try simp only [Act.put, List.setIfInBounds_toArray, List.set_cons_zero, List.set_cons_succ])
            refine wpAnyH_ready (rs := [3]) (by kernel_rfl) (by simp) ?_
            refine AllReadyH.cons (o := ⟨some 27, _, _, _, _, _⟩) rfl (fun K hK => ?_) AllReadyH.nil
            rw [if_pos (by rfl)]
            go_simp
            refine hK.out _ _ hHeld (fun hHeld => ?_)
            clear hK K
            (try simp only [Act.put, List.setIfInBounds_toArray, List.set_cons_zero, List.set_cons_succ])
            refine wpAnyH_ready (rs := [6]) (by kernel_rfl) (by simp) ?_
            refine AllReadyH.cons (o := ⟨some 30, _, _, _, _, _⟩) rfl (fun K hK => ?_) AllReadyH.nil
            rw [if_pos (by rfl)]
            refine wp_append_rec (.tmp 27) (.tmp 29) rfl X v' (c.recs ++ rs) rfl W2.drew ⟨xo, xt, xk, xv, xd⟩ rfl HOW2.out rfl (by rw [List.length_append]; have := HRL.out; have := HRS.out; have := HNN.out; omega) (Nat.le_trans HXR.out.1 (Nat.le_of_lt HRS2.out)) ?_
            intro v5 w5 hown5 hb5 hgr5
            obtain ⟨A5, L5, q5, rfl⟩ := ownr_form hown5
            have hR5 : w5.heap[R]? = W2.heap[R]? := (hgr5.block R (by show R < (W2.alloc _).heap.size; simp; have := HRS2.out; omega) (fun e => Nat.lt_irrefl _ (HXR.out.2.2 R e.symm))).trans (Below.heap_alloc W2 _ R HRS2.out)
            have hg5 : w5.heap[g]? = some (cmdO v' { c with recs := c.recs ++ rs }) := (hb5.block g HIN.out.2.1).trans HBL2.out
            have HO5 := Lib.hid hown5
            have HB5 : Hid (Below X W2 w5) := Lib.hid ⟨hb5.os, hb5.tape, hb5.output, hb5.size, hb5.block⟩
            refine hK.out _ _ (HSO.out _ hR5) (fun hHeld => ?_)
            clear hK K hown5 hb5 hgr5
            (try simp only [Act.put, List.setIfInBounds_toArray, List.set_cons_zero, List.set_cons_succ])
            refine held_take 7 31 (v := ?v6) rfl rfl (by kernel_rfl) (by kernel_rfl) (by kernel_rfl) (fun _ _ _ h => h) hHeld (Or.inl ⟨by rfl, ?y6⟩) ?r6
            case y6 => intro w hSw; (try dsimp only at hSw); go_simp; (try with_reducible rfl)
            simp only [List.setIfInBounds_toArray, List.set_cons_zero, List.set_cons_succ]
            have c5 := (cmd_at hg5).2.2.2.1
            have f5 : w5.frozen? ⟨g, 3, none⟩ = false := frozen_of_row _ g 3 _ _ hg5
            have hR6 : (w5.setCell ⟨g, 3, none⟩ (.slice A5 L5 q5)).heap[R]? = W2.heap[R]? := (heap_setCell_other w5 ⟨g, 3, none⟩ R (.slice A5 L5 q5) (Nat.ne_of_gt HXR.out.2.1)).trans hR5
            have HG6 : Hid ((w5.setCell ⟨g, 3, none⟩ (.slice A5 L5 q5)).heap[g]? = some (cmdO (.slice A5 L5 q5) { c with recs := c.recs ++ (rs ++ [⟨xo, xt, xk, xv, xd⟩]) })) := Lib.hid ((heap_setCell_same _ _ _ _ _ _ hg5).trans rfl)
            refine wpAnyH_ready (rs := [8]) (by kernel_rfl) (by simp) ?_
            refine AllReadyH.cons (o := ⟨none, _, _, _, _, _⟩) rfl (fun K hK => ?_) AllReadyH.nil
            rw [if_pos (by rfl)]
            go_simp
            refine hK.out _ _ (HSO.out _ hR6) (fun _ => ?_)
            clear hK K
            refine wpAnyH_done (by kernel_rfl) ?_ _
            have HW6 : Hid (w5.grownBy (w5.setCell ⟨g, 3, none⟩ (.slice A5 L5 q5)) (some g)) := Lib.hid (grown_set w5 g 3 (.slice A5 L5 q5))
            have HO6 : Hid (OwnR (w5.setCell ⟨g, 3, none⟩ (.slice A5 L5 q5)) X (.slice A5 L5 q5) (c.recs ++ (rs ++ [⟨xo, xt, xk, xv, xd⟩]))) := Lib.hid (by
              rw [← List.append_assoc]
              exact HO5.out.kept HW6.out (.inr fun e => Nat.lt_irrefl _ (Nat.lt_of_lt_of_le HIN.out.2.1 (HO5.out.lt g e).1)))
            have HA5 : Hid (AsideG X g W2 w5) := Lib.hid (AsideG.of_below HB5.out (Nat.le_refl _))
            have HA6 := Lib.hid (HA5.out.trans (AsideG.of_grown HW6.out (Nat.le_trans (Nat.le_trans HXR.out.1 (Nat.le_of_lt HRS2.out)) HB5.out.size)))
            have HL6 := Lib.hid (HA6.out.lies HL2.out (Nat.le_trans HIN.out.1 (Nat.le_of_lt HIN.out.2.1)) HIN.out.1)
            have HLC := Lib.hid (HL6.out.cut (n := m) hc)
            generalize w5.setCell ⟨g, 3, none⟩ (.slice A5 L5 q5) = w6 at *
            clear c5 f5 hg5 hR5 hR6 g3 g3b hgW HO5
            by_cases hcn : cap' = m
            · have HX := HLC.out
              rw [if_pos hcn] at HX
              have HX2 := Lib.hid HX
              clear HX
              go_wp2_with fail
              go_roundw
              case rel => exact ⟨j + 1, rs ++ [⟨xo, xt, xk, xv, xd⟩], ys.drop m, some ⟨bA, oA, none⟩, cap' - m, .slice A5 L5 q5, by first | rfl | go_num, by first | (rw [List.length_drop]; done) | (rw [List.length_drop]; first | rfl | (congr 1 <;> omega)), hlt, by rw [List.length_append, HRS.out]; rfl, HST2.out, HX2.out, fun q hq => HBY.out q (List.mem_of_mem_drop hq), by rw [List.length_drop]; omega, by omega, by simp, HG6.out, HO6.out, HAS2.out.trans HA6.out⟩
              case measure => simp [intOf]; omega
            · have HX := HLC.out
              rw [if_neg hcn] at HX
              have HX2 : Hid (Lies .u8 w6 B (some ⟨bA, oA + m, none⟩) (ys.drop m)) := Lib.hid (by simpa [add_lit] using HX)
              clear HX
              go_wp2_with fail
              go_roundw
              case rel => exact ⟨j + 1, rs ++ [⟨xo, xt, xk, xv, xd⟩], ys.drop m, some ⟨bA, oA + m, none⟩, cap' - m, .slice A5 L5 q5, by first | rfl | go_num, by first | (rw [List.length_drop]; done) | (rw [List.length_drop]; first | rfl | (congr 1 <;> omega)), hlt, by rw [List.length_append, HRS.out]; rfl, HST2.out, HX2.out, fun q hq => HBY.out q (List.mem_of_mem_drop hq), by rw [List.length_drop]; omega, by omega, by simp, HG6.out, HO6.out, HAS2.out.trans HA6.out⟩
              case measure => simp [intOf]; omega
        · have hne : (e != 0) = true := by simp [he]
          have HN := Lib.hid (getRecs_over HS.out hlt HR.out he)
          clear he HS
          go_wp2_with (go_at_call 44; refine HG.out.mono ?_; rintro e2 w2 ⟨rfl, hb2⟩; have HB2 := Lib.hid hb2; clear hb2)
          go_ret2
          have hz2 := HB2.out.size
          have hBA := HB2.out.trans ((Below.refl w2.heap.size w2).alloc (Nat.le_refl _) (.cells #[.int .i64 xo, .int .i64 xt, .string xk, .string xv, .bool xd] 39) |>.mono hz2)
          exact ⟨HAS.out.trans (AsideG.of_below hBA (Nat.le_trans HIN.out.2.2 HAS.out.size)), .inl ⟨HN.out, rfl, v', c.recs ++ rs, block_keep HBL.out hBA⟩⟩
      · obtain rfl : j = n := by omega
        have HE : Hid (O = some (rs, ys)) := Lib.hid (by
          rw [HS.out, Nat.sub_self]
          show some (rs ++ [], ys) = _
          rw [List.append_nil])
        clear hl hbl hown hasd hst hA
        go_wp2_with fail
        go_ret2
        exact ⟨HAS.out, .inr ⟨rs, ys, A', cap', v', HE.out, rfl, HL.out, hc, hcm, HA.out, HBL.out, HOW.out⟩⟩
end Go.Proofs.YtiglignfjegilaaDoor
