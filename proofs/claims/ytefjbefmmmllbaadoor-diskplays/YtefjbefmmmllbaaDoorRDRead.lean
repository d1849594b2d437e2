/- Contracts of the document's own Read, Loose and List. -/
import Derived.Test.YtefjbefmmmllbaaDoorRDGet
namespace Go.Proofs.YtefjbefmmmllbaaDoor
open Go.RowKit

set_option maxHeartbeats 800000 in
theorem rread_any (base : Nat) (S : Nat → Prop) (w : World) (p : Nat) (room : Int) (fs : List FileV) (n : ByteArray) (hR : RDisk base S w p room fs) (hn : n.size ≤ maxLen) (hb : (getM (filesOf fs) n).1.b.length ≤ 549755813888) :
    Calls Tryd.prog 26 #[.pointer (some ⟨p, 0, none⟩), .string n] w fun e w' => ∃ v, e = .returned (.tuple #[v, .int .i64 (getM (filesOf fs) n).2]) ∧ Own .u8 5 w' w.heap.size v (getM (filesOf fs) n).1.b ∧ Below w.heap.size w w' := by
  obtain ⟨i0, hi0, hz0, hz1, hz2⟩ := info_parts byte_info
  have HG := Lib.hid (rget_any base S w p room fs n hR hn)
  obtain ⟨f, er, hfe⟩ : ∃ f er, getM (filesOf fs) n = (f, er) := ⟨_, _, rfl⟩
  rw [hfe] at HG hb ⊢
  clear hfe hR
  dsimp only at hb ⊢
  go_enter Tryd.func26, Tryd.ntmps26
  go_wp2_with fail
  refine HG.out.mono ?_
  rintro e w1 ⟨bv, rfl, hsl, hb1⟩
  dsimp only at hsl ⊢
  have hsl1 := hsl.below hb1
  obtain ⟨A, c, rfl, hc, hm, hA, hl⟩ := hsl1
  have HA := Lib.hid hA
  have hl1 := hl.lies
  clear hsl hl hA HG
  go_wp2_with (at_builtin; refine wpList_append_ints rfl (.const (.slice none 0 0)) (.tmp 15) 31 rfl w.heap.size 5 .u8 i0 1 Tryd.underlying31 hi0 hz0 hz1 hz2 (by decide) (.slice none 0 0) [] rfl Own.nil w1.heap.size A f.b.length c f.b rfl rfl hc (hl1.alloc (Nat.le_refl _) _) (by simp; omega) (by have := hb1.size; simp; omega) HA.out ?_; intro v2 w2 hown2 hgr2 _)
  rw [List.nil_append] at hown2
  have hsz := hb1.size
  have hb2 : Below w.heap.size (w1.alloc (.cells #[.string f.name, .slice A f.b.length c, .int .i64 (f.loose : Int)] 74)) w2 := (Own.nil (k := .u8) (e := 5)).grown_below hgr2 (by simp; omega)
  go_ret2
  exact ⟨v2, rfl, hown2, (hb1.alloc hsz _).trans hb2⟩

set_option maxHeartbeats 800000 in
theorem rloose_any (base : Nat) (S : Nat → Prop) (w : World) (p : Nat) (room : Int) (fs : List FileV) (n : ByteArray) (hR : RDisk base S w p room fs) (hn : n.size ≤ maxLen) :
    Calls Tryd.prog 28 #[.pointer (some ⟨p, 0, none⟩), .string n] w fun e w' => e = .returned (.int .i64 ((getM (filesOf fs) n).1.loose : Int)) ∧ Below w.heap.size w w' := by
  have HG := Lib.hid (rget_any base S w p room fs n hR hn)
  obtain ⟨f, er, hfe⟩ : ∃ f er, getM (filesOf fs) n = (f, er) := ⟨_, _, rfl⟩
  rw [hfe] at HG ⊢
  clear hfe hR
  dsimp only
  go_enter Tryd.func28, Tryd.ntmps28
  go_wp2_with fail
  refine HG.out.mono ?_
  rintro e w1 ⟨bv, rfl, hsl, hb1⟩
  obtain ⟨A, c, rfl, _⟩ := hsl
  dsimp only
  clear HG
  go_wp2
  go_ret
  exact ⟨rfl, hb1.alloc hb1.size _⟩

/-- The slice value v holds texts in a row of the call's own. -/
def OwnT (w : World) (base : Nat) (v : Value) (ts : List ByteArray) : Prop := w.ownsRow base 9 1 v ts.length (ts.map Value.string)
theorem OwnT.nil {w : World} {base : Nat} : OwnT w base (.slice none 0 0) [] := World.ownsRow_nil w base 9 1
theorem OwnT.below {w w' : World} {base : Nat} {v : Value} {ts : List ByteArray} (h : OwnT w base v ts) (hb : Below w.heap.size w w') : OwnT w' base v ts :=
  World.ownsRow.kept (row := none) h ⟨hb.os, hb.tape, hb.output, hb.size, fun i hi _ => hb.block i hi⟩ (by cases v.ownBlock <;> simp)
theorem text_info : (Tryd.prog.info? 9).map (fun i => (i.zero, i.size)) = some (some (.string ⟨#[]⟩), 1) := by kernel_rfl
theorem text_bytes : (Tryd.prog.info? 9).map (fun i => decide (i.bytes ≤ 64)) = some true := by kernel_rfl
section
variable {w : World} {ops : Array Oper} {rest : List Oper} {o : Oper} {a : Act} {Q : Exit → Act → World → Prop}
/-- append of one text, which the walk has laid in the newest block. -/
theorem wpList_append_text1 (hgd : o.guard = none) (s x : Operand) (ho : o.op = .call { callee := .builtin .append, args := #[s, x], argTypes := #[65, 65] })
    (base : Nat) (v : Value) (ts : List ByteArray) (hs : a.eval s = v) (W : World) (t : ByteArray) (hw : w = W.alloc (.cells #[.string t] 9)) (hown : OwnT W base v ts) (hx : a.eval x = .slice (some ⟨W.heap.size, 0, none⟩) 1 1)
    (hb : ts.length + 1 ≤ 1099511627776) (hbase : base ≤ W.heap.size)
    (h : ∀ v' w', OwnT w' base v' (ts ++ [t]) → Below base W w' → wpList Tryd.prog ops Q rest (a.put o.dst v') w') : wpList Tryd.prog ops Q (o :: rest) a w := by
  subst hw
  obtain ⟨i, hi, hi2⟩ := Option.map_eq_some_iff.1 text_info
  obtain ⟨i', hi', hi3⟩ := Option.map_eq_some_iff.1 text_bytes
  obtain rfl := Option.some.inj (hi.symm.trans hi')
  simp only [Prod.mk.injEq] at hi2
  have hby := of_decide_eq_true hi3
  have h1' : (W.alloc (.cells #[.string t] 9)).ownsRow base 9 1 v ts.length (ts.map Value.string) := World.ownsRow.alloc hown _
  obtain ⟨v', w', hrun, h3, h4, _, _⟩ := run_append_own_at (P := Tryd.prog) (W.alloc (.cells #[.string t] 9)) base 65 o.type 9 i _ 1 i.bytes Tryd.underlying65 hi hi2.1 hi2.2 rfl rfl (by omega) v ts.length _ h1' ⟨W.heap.size, 0, none⟩ 1 1 [.string t] rfl
    (fun j u hu => by
      rw [add_lit, Nat.zero_add]
      have hj : j = 0 := by
        rcases Nat.lt_or_ge j 1 with h | h
        · omega
        · rw [List.getElem?_eq_none (by simpa using h)] at hu; cases hu
      subst hj
      simp only [List.getElem?_cons_zero, Option.some.injEq] at hu
      subst hu
      simp)
    (fun u hu => by simp only [List.mem_singleton] at hu; subst hu; rfl)
    (by simp only [maxLen]; omega) (by have := Nat.mul_le_mul_left (ts.length + 1) hby; omega) (by simp; omega)
  have hfin : OwnT w' base v' (ts ++ [t]) := by
    unfold OwnT
    rw [List.length_append, List.map_append]
    exact h3
  have hbel : Below base (W.alloc (.cells #[.string t] 9)) w' := (Below.refl _ _).grown h4 (by simp; omega) fun g hg' => (World.ownsRow.lt h1' g hg').1
  refine wpList_plain hgd fun K hK => ?_
  unfold Oper.wp execOp
  simp only [ho, resolve, invoke, builtin, Sem.run_bind, Sem.run_pure, Result.andThen_ok, List.map_toArray, List.map_cons, List.map_nil, hs, hx, hrun]
  exact hK _ _ (h v' w' hfin (((Below.refl _ _).alloc hbase _).trans hbel))
end

def namesM (l : List FileM) : List ByteArray := l.map FileM.name

set_option maxHeartbeats 800000 in
theorem rlist_any (base : Nat) (S : Nat → Prop) (w : World) (p : Nat) (room : Int) (fs : List FileV) (hR : RDisk base S w p room fs) (hlen : fs.length ≤ 549755813888) :
    Calls Tryd.prog 33 #[.pointer (some ⟨p, 0, none⟩)] w fun e w' => ∃ v, e = .returned v ∧ OwnT w' w.heap.size v (namesM (filesOf fs)) ∧ Below w.heap.size w w' := by
  obtain ⟨A, c, c0, c1, hc, hm, _, hfs⟩ := hR.cells
  have hpl : p < w.heap.size := cell_block_lt c0
  unfold maxLen at hm
  clear hR
  obtain ⟨T, hT⟩ : ∃ T, namesM (filesOf fs) = T := ⟨_, rfl⟩
  have hTl : T.length = fs.length := by rw [← hT]; simp [namesM, filesOf]
  have HT := Lib.hid hT
  have HTL := Lib.hid hTl
  rw [hT]
  clear hT hTl
  go_enter Tryd.func33, Tryd.ntmps33
  go_wp2_with fail
  go_loopw [3, 4] (fun v iv wr => ∃ k : Nat, iv = .int .i64 k ∧ k ≤ fs.length ∧ OwnT wr w.heap.size v (T.take k) ∧ Below w.heap.size w wr)
    (fun _ iv _ => fs.length - (intOf iv).toNat)
  case atStart => exact ⟨0, rfl, Nat.zero_le _, OwnT.nil, Below.refl _ _⟩
  case round =>
    obtain ⟨k, rfl, hk, hown, hbr⟩ := hrel
    have d1 : wr.cell? ⟨p, 1, none⟩ = some (.slice A fs.length c) := (hbr.cell hpl).trans c1
    by_cases hlt : k < fs.length
    · obtain ⟨g, off, rfl, hgl, hat⟩ := hfs (by rintro rfl; simp at hlt)
      obtain ⟨n0, _, _⟩ := hat k hlt
      have m0 := (hbr.cell (p := ⟨g, off + k * 3, none⟩) hgl).trans n0
      have htk : (T.take (k + 1)) = T.take k ++ [fs[k].1.name] := by
        have hkT : k < T.length := by rw [HTL.out]; exact hlt
        rw [List.take_succ_eq_append_getElem hkT]
        congr 2
        have : T[k] = (namesM (filesOf fs))[k]'(by rw [HT.out]; exact hkT) := by simp [HT.out]
        rw [this]
        simp [namesM, filesOf]
      generalize fs[k].1.name = nm at m0 htk
      have HTK := Lib.hid htk
      have hlk : (T.take k).length = k := by rw [List.length_take, HTL.out]; omega
      have hbs := hbr.size
      have hb3 : (T.take k).length + 1 ≤ 1099511627776 := by omega
      clear htk hat n0 hlk
      generalize T.take k = ts at hown HTK hb3
      go_wp2_with (at_builtin; refine wpList_append_text1 rfl (.tmp 14) (.tmp 23) rfl w.heap.size _ ts rfl wr nm rfl hown rfl hb3 hbs ?_; intro v3 w3 hown3 hbel3)
      go_roundw
      case rel => exact ⟨k + 1, rfl, by omega, by rw [HTK.out]; exact hown3, hbr.trans hbel3⟩
      case measure => simp [intOf]; omega
    · have HF := Lib.hid (show T.take k = T from List.take_of_length_le (by rw [HTL.out]; omega))
      go_wp2
      go_ret
      exact ⟨_, rfl, HF.out ▸ hown, hbr⟩
end Go.Proofs.YtefjbefmmmllbaaDoor
