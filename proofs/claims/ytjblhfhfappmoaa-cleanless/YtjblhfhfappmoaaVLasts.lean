/- The program's own map of where the last record of each key stands: what it tells, and how it is made. -/
import Derived.Test.YtjblhfhfappmoaaVClnOver
import Derived.Test.YtjblhfhfappmoaaLastNum
import Derived.Maps.OwnSet
namespace Go.Proofs.Ytjblhfhfappmoaa
open Go.RowKit Go.Maps

def keyT (k : ByteArray) : Lit := .string k.data.toList
theorem keyedT : Keyed Try.prog 9 := string_keyed Try.underlying9
theorem zeroI (w : World) : (zeroValue 3).run Try.prog w = .ok (.int .i64 0) w := by kernel_rfl
theorem keyOf_text {k : ByteArray} (h : k.size ≤ maxLen) : keyOf Try.prog 9 (.string k) = some (keyT k) := Go.WideMaps.keyOf_string_mk Try.underlying9 h
theorem keyT_ne {a b : ByteArray} (h : a ≠ b) : keyT a ≠ keyT b := fun e => h (name_eq (by unfold keyT at e; injection e))
/-- Block b is a map of at most n keys; of each key it tells what f says. -/
def PlacesIn (w : World) (b n : Nat) (f : ByteArray → Nat) : Prop := ∃ D : DataW Value, w.ownsMap Try.prog 9 (plainElem Try.prog 3) b n D ∧ ∀ k, D.atKey (keyT k) (.lit (.int .i64 0)) = .lit (.int .i64 (f k))
theorem places_new (w : World) : PlacesIn (w.alloc (.map #[] 0)) w.heap.size 0 (fun _ => 0) := ⟨.map [], World.ownsMap_made w _ _ _, fun _ => rfl⟩
section
variable {w : World} {b n : Nat} {f : ByteArray → Nat}
theorem PlacesIn.look (h : PlacesIn w b n f) {k : ByteArray} (hk : k.size ≤ maxLen) : (Instr.lookup 34 (.map (some b)) (.string k) false).run Try.prog w = .ok (.int .i64 (f k)) w := by
  obtain ⟨D, hD, ha⟩ := h
  obtain ⟨c, hrun, hat, _⟩ := hD.lookup_int keyedT Try.underlying34 Try.underlying3 (zeroI w) (keyOf_text hk)
  rw [ha k] at hat
  injection hat with hat
  injection hat with _ hat
  rw [hrun, hat]
theorem PlacesIn.put (h : PlacesIn w b n f) {k : ByteArray} (hk : k.size ≤ maxLen) (hn : n < maxLen) (i : Nat) (hi : i ≤ 1000000000) :
    ∃ w', (Instr.mapUpdate 34 (.map (some b)) (.string k) (.int .i64 i)).run Try.prog w = .ok () w' ∧ PlacesIn w' b (n + 1) (fun k' => if k = k' then i else f k') ∧ w.grownBy w' (some b) := by
  obtain ⟨D, hD, ha⟩ := h
  obtain ⟨w', hrun, ho, hg⟩ := hD.update keyedT Try.underlying34 hn (keyOf_text hk) (plainElem_int Try.underlying3 (show (Lit.int .i64 (i : Int)).wf = true by rw [show (Lit.int .i64 (i : Int)).wf = (decide (IntKind.i64.min ≤ (i : Int)) && decide ((i : Int) ≤ IntKind.i64.max)) from rfl, show IntKind.i64.min = -9223372036854775808 from by decide, show IntKind.i64.max = 9223372036854775807 from by decide]; simp; omega))
  refine ⟨w', hrun, ⟨_, ho, fun k' => ?_⟩, hg⟩
  by_cases e : k = k'
  · subst e
    dsimp only
    rw [if_pos rfl]
    exact atKey_put_same hD.isMap (by simp [WideAt.IsKeyLit, keyT]) _ _
  · dsimp only
    rw [if_neg e, ← ha k']
    exact atKey_put_other (keyT_ne (Ne.symm e)) _ _
theorem PlacesIn.mono (h : PlacesIn w b n f) {m : Nat} (hm : n ≤ m) : PlacesIn w b m f := let ⟨D, h1, h2⟩ := h; ⟨D, h1.mono hm, h2⟩
theorem PlacesIn.same (h : PlacesIn w b n f) {g : ByteArray → Nat} (e : f = g) : PlacesIn w b n g := e ▸ h
theorem PlacesIn.lt (h : PlacesIn w b n f) : b < w.heap.size := let ⟨_, h1, _⟩ := h; h1.lt
theorem PlacesIn.below {w' : World} {B : Nat} (h : PlacesIn w b n f) (hb : Below B w w') (hB : b < B) : PlacesIn w' b n f := by
  obtain ⟨D, ⟨es, clock, h1, r⟩, h2⟩ := h
  exact ⟨D, ⟨es, clock, (hb.block b hB).trans h1, r⟩, h2⟩
end
theorem lastI_put {q : Rec → Bool} {l : List Rec} {i : Nat} (h : i < l.length) (hq : q l[i] = true) : (fun k' => if l[i].key = k' then i else lastI q l k' i) = fun k' => lastI q l k' (i + 1) := by
  funext k'
  rw [lastI_next h, hq, Bool.true_and]
  simp only [decide_eq_true_eq]
theorem lastI_not {q : Rec → Bool} {l : List Rec} {i : Nat} (h : i < l.length) (hq : q l[i] = false) : (fun k' => lastI q l k' i) = fun k' => lastI q l k' (i + 1) := by
  funext k'
  rw [lastI_next h, hq, Bool.false_and]
  rfl
theorem drawn_on {B : Nat} {w w' : World} (h : Below B w w') (m : Nat) : Below B w (w'.drewN m) := ⟨h.os, h.tape, h.output, h.size, h.block⟩
theorem rec_block {w : World} {b : Nat} {t : TypeId} {r : Rec} (h : w.heap[b]? = some (.cells #[.int .i64 r.off, .int .i64 r.time, .string r.key, .string r.val, .bool r.dead] t)) : RecAt w b 0 r :=
  ⟨by unfold World.cell?; rw [h]; rfl, by unfold World.cell?; rw [h]; rfl, by unfold World.cell?; rw [h]; rfl, by unfold World.cell?; rw [h]; rfl, by unfold World.cell?; rw [h]; rfl⟩
set_option maxHeartbeats 3200000 in
theorem lasts_keep (w : World) (rs : List Rec) (A : Option Addr) (cap : Nat) (h : RecsLie w A rs cap) (hl : rs.length ≤ 1000000000) (c : Nat) (p : Int) (hc : w.cell? ⟨c, 0, none⟩ = some (.int .i64 p)) (hlt : c < w.heap.size) :
    Calls Try.prog 15 #[.slice A rs.length cap, .func (.func 16) #[] #[.pointer (some ⟨c, 0, none⟩)]] w (fun e w' => e = .returned (.map (some w.heap.size)) ∧ PlacesIn w' w.heap.size rs.length (fun k => lastI (fun r => decide (r.off < p)) rs k rs.length) ∧ Below w.heap.size w w') := by
  have hcl := h.2.1
  have hcm := h.2.2.1
  unfold maxLen at hcm
  have H := Lib.hid h
  have HL := Lib.hid hl
  have HWF := Lib.hid h.2.2.2
  have HC := Lib.hid (And.intro hc hlt)
  clear hc hlt
  clear h
  have hmm := @run_makeMap Try.prog
  go_enter Try.func15, Try.ntmps15
  go_wp2_with fail
  go_loopw [11] (fun iv wr => ∃ i : Nat, iv = .int .i64 i ∧ i ≤ rs.length ∧ PlacesIn wr w.heap.size i (fun k => lastI (fun r => decide (r.off < p)) rs k i) ∧ Below w.heap.size w wr) (fun iv _ => rs.length - (intOf iv).toNat)
  case atStart => exact ⟨0, rfl, Nat.zero_le _, places_new w, (Below.refl _ _).alloc (Nat.le_refl _) _⟩
  case round =>
    generalize wr = wo at *
    obtain ⟨i, rfl, hi, hP, hbel⟩ := hrel
    have HP := Lib.hid hP
    have HB := Lib.hid hbel
    have hbm := hP.lt
    clear hP
    by_cases hlt : i < rs.length
    · obtain ⟨b, off, rfl, hbl, hat⟩ := H.out.more hlt
      obtain ⟨a0, a1, a2, a3, a4⟩ := hat.keep (w' := wo) fun j => hbel.cell hbl
      have HRW := Lib.hid (HWF.out _ (List.getElem_mem hlt))
      have HPUT := Lib.hid (lastI_put (q := (fun r => decide (r.off < p))) hlt)
      have HNOT := Lib.hid (lastI_not (q := (fun r => decide (r.off < p))) hlt)
      obtain ⟨r, hr⟩ : ∃ r, rs[i] = r := ⟨_, rfl⟩
      rw [hr] at a0 a1 a2 a3 a4 HRW HPUT HNOT
      obtain ⟨ro, rt, rk, rv, rd⟩ := r
      dsimp only at a0 a1 a2 a3 a4 HPUT HNOT
      have HLT := Lib.hid hlt
      have HBL := Lib.hid hbl
      clear hr hat hbel hbl
      have hx0 : Below wo.heap.size wo (wo.alloc (.cells #[.int .i64 ro, .int .i64 rt, .string rk, .string rv, .bool rd] 32)) := (Below.refl _ _).alloc (Nat.le_refl _) _
      have hx1 : (wo.alloc (.cells #[.int .i64 ro, .int .i64 rt, .string rk, .string rv, .bool rd] 32)).heap[wo.heap.size]? = some (.cells #[.int .i64 ro, .int .i64 rt, .string rk, .string rv, .bool rd] 32) := heap_alloc_new wo _
      have HX := Lib.hid (And.intro hx0 hx1)
      clear hx0 hx1
      have HCO := Lib.hid (counts_any (wo.alloc (.cells #[.int .i64 ro, .int .i64 rt, .string rk, .string rv, .bool rd] 32)) ⟨ro, rt, rk, rv, rd⟩ c p (((HB.out.trans (HX.out.1.mono HB.out.size)).cell (p := ⟨c, 0, none⟩) HC.out.2).trans HC.out.1) (by have := HC.out.2; have := HB.out.size; simp; omega))
      dsimp only at HCO
      by_cases ho : ro < p
      · have q0 : decide (ro < p) = true := decide_eq_true ho
        rw [q0] at HCO HPUT
        go_wp2_with fail
        refine HCO.out.mono ?_
        rintro e w2 ⟨rfl, hb2⟩
        have hq1 : Below wo.heap.size wo w2 := HX.out.1.trans (hb2.mono (by simp))
        obtain ⟨c0, c1, c2, c3, c4⟩ := rec_block (r := ⟨ro, rt, rk, rv, rd⟩) ((hb2.block wo.heap.size (by simp)).trans HX.out.2)
        dsimp only at c0 c1 c2 c3 c4

        obtain ⟨w3, hrun, hp3, hg3⟩ := (HP.out.below hq1 hbm).put HRW.out.2.2.2.2.1 (by unfold maxLen; omega) i (by omega)
        have HW3 := Lib.hid (And.intro hp3 hg3)
        have HQ1 := Lib.hid hq1
        clear hp3 hg3 hb2 hq1
        go_wp2
        go_roundw
        case rel => exact ⟨i + 1, by go_num, HLT.out, HW3.out.1.same (HPUT.out trivial), (HB.out.trans (HQ1.out.mono HB.out.size)).grown HW3.out.2 (Nat.le_trans HB.out.size HQ1.out.size) (fun g hg => by cases hg; exact Nat.le_refl _)⟩
        case measure => simp [intOf]; omega
      · have q0 : decide (ro < p) = false := decide_eq_false ho
        rw [q0] at HCO HNOT
        go_wp2_with fail
        refine HCO.out.mono ?_
        rintro e w2 ⟨rfl, hb2⟩
        have HQ1 : Hid (Below wo.heap.size wo w2) := Lib.hid (HX.out.1.trans (hb2.mono (by simp)))
        clear hb2
        go_wp2
        go_roundw
        case rel => exact ⟨i + 1, by go_num, HLT.out, ((HP.out.below HQ1.out hbm).mono (Nat.le_succ _)).same (HNOT.out trivial), HB.out.trans (HQ1.out.mono HB.out.size)⟩
        case measure => simp [intOf]; omega
    · obtain rfl : i = rs.length := by omega
      clear hbel
      go_wp2_with fail
      go_ret
      exact ⟨rfl, HP.out, HB.out⟩
set_option maxHeartbeats 3200000 in
theorem lasts_map (w : World) (rs : List Rec) (A : Option Addr) (cap : Nat) (h : RecsLie w A rs cap) (hl : rs.length ≤ 1000000000) :
    Calls Try.prog 15 #[.slice A rs.length cap, .func (.func 19) #[] #[]] w (fun e w' => e = .returned (.map (some w.heap.size)) ∧ PlacesIn w' w.heap.size rs.length (fun k => lastI (fun _ => true) rs k rs.length) ∧ Below w.heap.size w w') := by
  have hcl := h.2.1
  have hcm := h.2.2.1
  unfold maxLen at hcm
  have H := Lib.hid h
  have HL := Lib.hid hl
  have HWF := Lib.hid h.2.2.2
  clear h
  have hmm := @run_makeMap Try.prog
  go_enter Try.func15, Try.ntmps15
  go_wp2_with fail
  go_loopw [11] (fun iv wr => ∃ i : Nat, iv = .int .i64 i ∧ i ≤ rs.length ∧ PlacesIn wr w.heap.size i (fun k => lastI (fun _ => true) rs k i) ∧ Below w.heap.size w wr) (fun iv _ => rs.length - (intOf iv).toNat)
  case atStart => exact ⟨0, rfl, Nat.zero_le _, places_new w, (Below.refl _ _).alloc (Nat.le_refl _) _⟩
  case round =>
    generalize wr = wo at *
    obtain ⟨i, rfl, hi, hP, hbel⟩ := hrel
    have HP := Lib.hid hP
    have HB := Lib.hid hbel
    have hbm := hP.lt
    clear hP
    by_cases hlt : i < rs.length
    · obtain ⟨b, off, rfl, hbl, hat⟩ := H.out.more hlt
      obtain ⟨a0, a1, a2, a3, a4⟩ := hat.keep (w' := wo) fun j => hbel.cell hbl
      have HRW := Lib.hid (HWF.out _ (List.getElem_mem hlt))
      have HPUT := Lib.hid (lastI_put (q := (fun _ => true)) hlt)
      obtain ⟨r, hr⟩ : ∃ r, rs[i] = r := ⟨_, rfl⟩
      rw [hr] at a0 a1 a2 a3 a4 HRW HPUT
      obtain ⟨ro, rt, rk, rv, rd⟩ := r
      dsimp only at a0 a1 a2 a3 a4 HPUT
      have HLT := Lib.hid hlt
      have HBL := Lib.hid hbl
      clear hr hat hbel hbl
      have hx0 : Below wo.heap.size wo (wo.alloc (.cells #[.int .i64 ro, .int .i64 rt, .string rk, .string rv, .bool rd] 32)) := (Below.refl _ _).alloc (Nat.le_refl _) _
      have hx1 : (wo.alloc (.cells #[.int .i64 ro, .int .i64 rt, .string rk, .string rv, .bool rd] 32)).heap[wo.heap.size]? = some (.cells #[.int .i64 ro, .int .i64 rt, .string rk, .string rv, .bool rd] 32) := heap_alloc_new wo _
      have HX := Lib.hid (And.intro hx0 hx1)
      clear hx0 hx1
      have HCO := Lib.hid (every_any (wo.alloc (.cells #[.int .i64 ro, .int .i64 rt, .string rk, .string rv, .bool rd] 32)) ⟨ro, rt, rk, rv, rd⟩)
      dsimp only at HCO
      go_wp2_with fail
      refine HCO.out.mono ?_
      rintro e w2 ⟨rfl, hb2⟩
      have hq1 : Below wo.heap.size wo w2 := HX.out.1.trans (hb2.mono (by simp))
      obtain ⟨c0, c1, c2, c3, c4⟩ := rec_block (r := ⟨ro, rt, rk, rv, rd⟩) ((hb2.block wo.heap.size (by simp)).trans HX.out.2)
      dsimp only at c0 c1 c2 c3 c4
      obtain ⟨w3, hrun, hp3, hg3⟩ := (HP.out.below hq1 hbm).put HRW.out.2.2.2.2.1 (by unfold maxLen; omega) i (by omega)
      have HW3 := Lib.hid (And.intro hp3 hg3)
      have HQ1 := Lib.hid hq1
      clear hp3 hg3 hb2 hq1
      go_wp2
      go_roundw
      case rel => exact ⟨i + 1, by go_num, HLT.out, HW3.out.1.same (HPUT.out trivial), (HB.out.trans (HQ1.out.mono HB.out.size)).grown HW3.out.2 (Nat.le_trans HB.out.size HQ1.out.size) (fun g hg => by cases hg; exact Nat.le_refl _)⟩
      case measure => simp [intOf]; omega
    · obtain rfl : i = rs.length := by omega
      clear hbel
      go_wp2_with fail
      go_ret
      exact ⟨rfl, HP.out, HB.out⟩
section
variable {w : World} {ops : Array Oper} {rest : List Oper} {o : Oper} {a : Act} {Q : Exit → Act → World → Prop}
/-- append of one record, which the walk has laid in the newest block, whose number it has written its own way. -/
theorem wpList_append_rec_at (hgd : o.guard = none) (s x : Operand) (ho : o.op = .call { callee := .builtin .append, args := #[s, x], argTypes := #[22, 22] })
    (base : Nat) (v : Value) (rs : List Rec) (hs : a.eval s = v) (W : World) (r : Rec) (hw : w = W.alloc (.cells #[.int .i64 r.off, .int .i64 r.time, .string r.key, .string r.val, .bool r.dead] 32)) (hown : OwnR W base v rs) (m : Nat) (hx : a.eval x = .slice (some ⟨m, 0, none⟩) 1 1) (hm : W.heap.size = m)
    (hb : rs.length + 1 ≤ 1099511627776) (hbase : base ≤ W.heap.size)
    (h : ∀ v' w', OwnR w' base v' (rs ++ [r]) → Below base W w' → w.grownBy w' v.ownBlock → (v'.ownBlock = v.ownBlock ∨ v'.ownBlock = some w.heap.size) → wpList Try.prog ops Q rest (a.put o.dst v') w') : wpList Try.prog ops Q (o :: rest) a w :=
  wpList_append_rec hgd s x ho base v rs hs W r hw hown (by rw [hm]; exact hx) hb hbase h
end
end Go.Proofs.Ytjblhfhfappmoaa
