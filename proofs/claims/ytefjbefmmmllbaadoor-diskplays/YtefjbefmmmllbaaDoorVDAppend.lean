/- A contract of the program's own Append. -/
import Derived.Test.YtefjbefmmmllbaaDoorVDLeft
namespace Go.Proofs.YtefjbefmmmllbaaDoor
open Go.RowKit Go.Maps

section
variable {base : Nat} {S : Nat → Prop} {w : World} {p : Nat} {room u : Int} {fs : List FileP}
def more (x : FileP) (ys : List Int) (v : Value) : FileP := ⟨⟨x.f.name, x.f.b ++ ys, x.f.loose + ys.length⟩, x.g, v⟩
/-- Bytes put behind a file's. -/
theorem app_fin (hV : VDiskU base S w p room u fs) {x : FileP} (hx : x ∈ fs) (ys : List Int) (hy : IsBytes ys) (v' : Value) (w1 : World) (ho : Own .u8 5 w1 base v' (x.f.b ++ ys)) (hg : w.grownBy w1 x.v.ownBlock)
    (hl : v'.ownBlock = x.v.ownBlock ∨ v'.ownBlock = some w.heap.size) (u' : Int) : Left base S w ((w1.setCell ⟨x.g, 0, none⟩ v').setCell ⟨p, 1, none⟩ (.int .i64 u')) p room u' (layP fs (more x ys v')) := by
  obtain ⟨mo, hp, hm⟩ := hV.block
  have hf := hV.row.file x hx
  have hfb := hf.block
  have hne : p ≠ x.g := cells_apart hp hfb (by decide)
  have hpl := (hV.within.2 p hV.inS).2
  have hxl := (Array.getElem?_eq_some_iff.1 hfb).1
  have nrow : ∀ {i : Nat} {cs : Array Value} {t : TypeId}, w.heap[i]? = some (.cells cs t (0, 0)) → t ≠ 5 → some i ≠ x.v.ownBlock := fun {i cs t} hi ht e => by
    obtain ⟨cur, hc⟩ := own_block hf.own e.symm
    exact cells_apart hi hc ht rfl
  have hk : Keep S w ((w1.setCell ⟨x.g, 0, none⟩ v').setCell ⟨p, 1, none⟩ (.int .i64 u')) :=
    (((Keep.refl S w).grown hg fun k hk => .inl (hf.row k hk)).setCell (p := ⟨x.g, 0, none⟩) (.inl hf.inS) _).setCell (p := ⟨p, 1, none⟩) (.inl hV.inS) _
  generalize hW : (w1.setCell ⟨x.g, 0, none⟩ v').setCell ⟨p, 1, none⟩ (.int .i64 u') = w' at hk ⊢
  have oth1 : ∀ i, i ≠ p → i ≠ x.g → w'.heap[i]? = w1.heap[i]? := fun i h1 h2 => by
    rw [← hW, heap_setCell_other _ _ _ _ h1, heap_setCell_other _ _ _ _ h2]
  have oth : ∀ i, i < w.heap.size → i ≠ p → i ≠ x.g → some i ≠ x.v.ownBlock → w'.heap[i]? = w.heap[i]? := fun i h0 h1 h2 h3 => by
    rw [oth1 i h1 h2]
    exact hg.block i h0 h3
  have p1 : w1.heap[p]? = some (.cells (diskCells room u mo) 44 (0, 0)) := by rw [hg.block p hpl (nrow hp (by decide))]; exact hp
  have g1 : w1.heap[x.g]? = some (.cells (fileCells x) 52 (0, 0)) := by rw [hg.block x.g hxl (nrow hfb (by decide))]; exact hfb
  have bp : w'.heap[p]? = some (.cells (diskCells room u' mo) 44 (0, 0)) := by
    have h1 : (w1.setCell ⟨x.g, 0, none⟩ v').heap[p]? = some (.cells (diskCells room u mo) 44 (0, 0)) := by rw [heap_setCell_other _ _ _ _ hne]; exact p1
    rw [← hW, heap_setCell_same _ p 1 _ _ _ h1]
    rfl
  have bg : w'.heap[x.g]? = some (.cells #[v', .int .i64 ((x.f.b.length - x.f.loose : Nat) : Int)] 52 (0, 0)) := by
    rw [← hW, heap_setCell_other _ _ _ _ hne.symm, heap_setCell_same _ x.g 0 _ _ _ g1]
    rfl
  have hlo := hf.wf.2.2
  have hsz : w1.heap.size = w'.heap.size := by rw [← hW]; simp
  refine ⟨hk, hV.put _ hk (fun y hy hnm => ?_) ?_ (fun y hy hnm => ?_) ⟨mo, bp, ?_⟩⟩
  · have ha := apart_of hV.row hx hy hnm
    have hyf := hV.row.file y hy
    refine ⟨oth _ (Array.getElem?_eq_some_iff.1 hyf.block).1 (cells_apart hyf.block hp (by decide)) (fun e => ha.1 e.symm) (nrow hyf.block (by decide)), fun b hb => ?_⟩
    obtain ⟨cur, hc⟩ := own_block hyf.own hb
    exact oth b (Array.getElem?_eq_some_iff.1 hc).1 (cells_apart hc hp (by decide)) (cells_apart hc hfb (by decide)) (fun e => ha.2 b e.symm hb)
  · have n5 : ∀ b, v'.ownBlock = some b → b ≠ p ∧ b ≠ x.g := fun b hb => by
      obtain ⟨cur, hc⟩ := own_block ho hb
      exact ⟨cells_apart hc p1 (by decide), cells_apart hc g1 (by decide)⟩
    refine ⟨.inl hf.inS, ?_, ho.same fun b hb => oth1 b (n5 b hb).1 (n5 b hb).2, fun b hb => ?_, hf.wf.1, fun c hc => ?_, ?_⟩
    · have : ((x.f.b ++ ys).length - (x.f.loose + ys.length) : Nat) = x.f.b.length - x.f.loose := by rw [List.length_append]; omega
      show _ = some (Obj.cells #[v', .int .i64 (((x.f.b ++ ys).length - (x.f.loose + ys.length) : Nat) : Int)] _ _)
      rw [this]
      exact bg
    · rcases hl with h1 | h1
      · exact .inl (hf.row b (by rw [← h1]; exact hb))
      · have e : v'.ownBlock = some b := hb
        rw [h1] at e
        injection e with e
        have := (ho.lt b hb).2
        exact .inr ⟨by omega, by omega⟩
    · rcases List.mem_append.1 hc with h | h
      · exact hf.wf.2.1 c h
      · exact hy c h
    · show x.f.loose + ys.length ≤ (x.f.b ++ ys).length
      rw [List.length_append]
      omega
  · have ha := apart_of hV.row hx hy hnm
    refine ⟨ha.1, fun b hb => ?_⟩
    have hb : v'.ownBlock = some b := hb
    rcases hl with h1 | h1
    · exact ha.2 b (by rw [← h1]; exact hb)
    · rw [h1] at hb
      injection hb with hb
      intro e
      have := ((hV.row.file y hy).own.lt b e).2
      omega
  · refine MapF.same (x := x) ?_ hV.row.rising hx rfl rfl
    rcases hm with hm | ⟨mb, h1, h2, h3⟩
    · exact .inl hm
    · refine .inr ⟨mb, h1, .inl h2, ownsMap_same h3 (oth mb h3.lt (fun e => map_apart hp h3 e.symm) (fun e => map_apart hfb h3 e.symm) fun e => ?_)⟩
      obtain ⟨cur, hc⟩ := own_block hf.own e.symm
      exact map_apart hc h3 rfl
/-- What Append and its like answer. -/
def Does (base : Nat) (S : Nat → Prop) (p : Nat) (room : Int) (r : List FileM × Int) (w : World) (e : Ending) (w' : World) : Prop :=
  e = .returned (.int .i64 r.2) ∧ ∃ fs', filesP fs' = r.1 ∧ Left base S w w' p room ((usedM (filesP fs') : Nat) : Int) fs'
theorem ofName_some {x : FileP} (hr : Rising (filesP fs)) (hx : x ∈ fs) : ofName (filesP fs) x.f.name = x.f := by
  unfold ofName
  rw [if_pos (file_has hr hx), file_at hr hx]
  rfl
theorem ofName_none {n : ByteArray} (hh : hasF (filesP fs) n = false) : ofName (filesP fs) n = ⟨n, [], 0⟩ := by
  unfold ofName
  rw [if_neg (by rw [hh]; simp)]

set_option maxHeartbeats 1600000 in
set_option maxRecDepth 4000 in
theorem vappend_bad (hV : VDisk base S w p room fs) (n : ByteArray) (A : Option Addr) (ys : List Int) (c : Nat) (hn : n.size ≤ maxLen) (hT : Tabs w) (hv : validS n = false) :
    Calls Tryd.prog 8 #[.pointer (some ⟨p, 0, none⟩), .string n, .slice A ys.length c] w (Does base S p room (appendM room (filesP fs) n ys) w) := by
  have e1 : appendM room (filesP fs) n ys = (filesP fs, 6) := by unfold appendM; rw [if_pos hv]
  rw [e1]
  have HC := Lib.hid (vfind_bad (p := p) n hn hT hv)
  have HV := Lib.hid hV
  clear hV hn hT hv e1
  go_enter Tryd.func8, Tryd.ntmps8
  go_wp2_with fail
  refine HC.out.mono ?_
  rintro e w1 ⟨rfl, hb⟩
  go_wp2
  go_ret
  exact ⟨rfl, fs, rfl, Left.of_below HV.out hb⟩

set_option maxHeartbeats 1600000 in
set_option maxRecDepth 4000 in
theorem vappend_full (hV : VDisk base S w p room fs) (n : ByteArray) (A : Option Addr) (ys : List Int) (c : Nat) (hn : n.size ≤ maxLen) (hT : Tabs w) (hv : validS n = true) (hr0 : 0 ≤ room) (hr1 : room ≤ 9223372036854775807) (hu : usedM (filesP fs) ≤ 1099511627776) (hfull : room - (usedM (filesP fs) : Int) < (ys.length : Int)) :
    Calls Tryd.prog 8 #[.pointer (some ⟨p, 0, none⟩), .string n, .slice A ys.length c] w (Does base S p room (appendM room (filesP fs) n ys) w) := by
  have e1 : appendM room (filesP fs) n ys = (filesP fs, 7) := by unfold appendM; rw [if_neg (by rw [hv]; simp), if_pos hfull]
  rw [e1]
  have hc : ∃ v er, (er = 0 ∨ er = 8) ∧ Calls Tryd.prog 14 #[.pointer (some ⟨p, 0, none⟩), .string n] w fun e w' => e = .returned (.tuple #[.pointer v, .int .i64 er]) ∧ Below w.heap.size w w' := by
    cases hh : hasF (filesP fs) n with
    | false => exact ⟨_, _, .inr rfl, vfind_none hV n hn hT hv hh⟩
    | true =>
      obtain ⟨x, hx, rfl, _⟩ := has_file hh
      exact ⟨_, _, .inl rfl, vfind_some hV x hx _ rfl hn hT hv⟩
  obtain ⟨v, er, her, hc⟩ := hc
  have cel : ∀ w1, Below w.heap.size w w1 → w1.cell? ⟨p, 0, none⟩ = some (.int .i64 room) ∧ w1.cell? ⟨p, 1, none⟩ = some (.int .i64 ((usedM (filesP fs) : Nat) : Int)) := fun w1 hb => by
    obtain ⟨mo, c0, c1, _⟩ := (hV.below hb).cells
    exact ⟨c0, c1⟩
  have HC := Lib.hid hc
  have HV := Lib.hid hV
  have CEL := Lib.hid cel
  obtain ⟨U, hU⟩ : ∃ U, usedM (filesP fs) = U := ⟨_, rfl⟩
  rw [hU] at hu hfull CEL
  have he6 : (er == 6) = false := by rcases her with rfl | rfl <;> rfl
  clear hV hn hT hv e1 hc cel hU her
  go_enter Tryd.func8, Tryd.ntmps8
  go_wp2_with fail
  refine HC.out.mono ?_
  rintro e w1 ⟨rfl, hb⟩
  obtain ⟨c0, c1⟩ := CEL.out w1 hb
  have hwr : wrap64 (room - (U : Int)) = room - (U : Int) := by unfold wrap64; omega
  have hwr2 : IntKind.i64.wrap (room - (U : Int)) = room - (U : Int) := wrap_in _ (by omega)
  go_wp2_with fail
  go_quiet (fail)
  go_wp2
  go_ret
  exact ⟨rfl, fs, rfl, Left.of_below HV.out ⟨hb.os, hb.tape, hb.output, hb.size, hb.block⟩⟩

theorem appendM_ok {n : ByteArray} {ys : List Int} (hv : validS n = true) (hfull : ¬ room - (usedM (filesP fs) : Int) < (ys.length : Int)) :
    appendM room (filesP fs) n ys = (layF (filesP fs) ⟨(ofName (filesP fs) n).name, (ofName (filesP fs) n).b ++ ys, (ofName (filesP fs) n).loose + ys.length⟩, 0) := by
  unfold appendM
  rw [if_neg (by rw [hv]; simp), if_neg hfull]
set_option maxHeartbeats 1600000 in
set_option maxRecDepth 4000 in
theorem vappend_some (hV : VDisk base S w p room fs) {x : FileP} (hx : x ∈ fs) (n : ByteArray) (hxn : x.f.name = n) (A : Option Addr) (ys : List Int) (c : Nat) (hn : n.size ≤ maxLen) (hT : Tabs w) (hv : validS n = true) (hr0 : 0 ≤ room) (hr1 : room ≤ 9223372036854775807) (hu : usedM (filesP fs) ≤ 549755813888)
    (hfull : ¬ room - (usedM (filesP fs) : Int) < (ys.length : Int)) (hl : LiesOff S w A ys) (hc : ys.length ≤ c) (hA : A = none → c = 0) (hy : IsBytes ys) (hyl : ys.length ≤ 549755813888) :
    Calls Tryd.prog 8 #[.pointer (some ⟨p, 0, none⟩), .string n, .slice A ys.length c] w (Does base S p room (appendM room (filesP fs) n ys) w) := by
  subst hxn
  obtain ⟨i0, hi0, hz0, hz1, hz2⟩ := info_parts byte_info
  rw [appendM_ok hv hfull, ofName_some hV.row.rising hx]
  have HC := Lib.hid (vfind_some hV x hx _ rfl hn hT hv)
  have hxu := used_ge hx
  have facts : ∀ w1, Below w.heap.size w w1 → w1.cell? ⟨p, 0, none⟩ = some (.int .i64 room) ∧ w1.cell? ⟨p, 1, none⟩ = some (.int .i64 ((usedM (filesP fs) : Nat) : Int)) ∧ w1.cell? ⟨x.g, 0, none⟩ = some x.v ∧ Own .u8 5 w1 base x.v x.f.b ∧ base ≤ w1.heap.size ∧ Lies .u8 w1 w1.heap.size A ys := fun w1 hb => by
    have hV1 := hV.below hb
    obtain ⟨mo, c0, c1, _⟩ := hV1.cells
    exact ⟨c0, c1, (hV1.row.file x hx).cells.1, (hV1.row.file x hx).own, hV1.within.1, (hl.lies.below hb).more hb.size⟩
  have fin : ∀ w1, Below w.heap.size w w1 → ∀ v' w2, Own .u8 5 w2 base v' (x.f.b ++ ys) → w1.grownBy w2 x.v.ownBlock → (v'.ownBlock = x.v.ownBlock ∨ v'.ownBlock = some w1.heap.size) →
      (w2.cell? ⟨p, 1, none⟩ = some (.int .i64 ((usedM (filesP fs) : Nat) : Int)) ∧ w2.frozen? ⟨p, 1, none⟩ = false ∧ w2.cell? ⟨x.g, 0, none⟩ = some x.v ∧ w2.frozen? ⟨x.g, 0, none⟩ = false) ∧
      ∃ fs', filesP fs' = layF (filesP fs) ⟨x.f.name, x.f.b ++ ys, x.f.loose + ys.length⟩ ∧ Left base S w ((w2.setCell ⟨x.g, 0, none⟩ v').setCell ⟨p, 1, none⟩ (.int .i64 (((usedM (filesP fs) + ys.length : Nat)) : Int))) p room ((usedM (filesP fs') : Nat) : Int) fs' := fun w1 hb v' w2 ho hg hlo => by
    have hV1 := hV.below hb
    have hf1 := hV1.row.file x hx
    obtain ⟨mo, hp, _⟩ := hV1.block
    have nrow : ∀ {i : Nat} {cs : Array Value} {t : TypeId}, w1.heap[i]? = some (.cells cs t (0, 0)) → t ≠ 5 → some i ≠ x.v.ownBlock := fun {i cs t} hi ht e => by
      obtain ⟨cur, hc⟩ := own_block hf1.own e.symm
      exact cells_apart hi hc ht rfl
    have hp2 : w2.heap[p]? = some (.cells (diskCells room ((usedM (filesP fs) : Nat) : Int) mo) 44 (0, 0)) := by rw [hg.block p (hV1.within.2 p hV1.inS).2 (nrow hp (by decide))]; exact hp
    have hg2 : w2.heap[x.g]? = some (.cells (fileCells x) 52 (0, 0)) := by rw [hg.block x.g (Array.getElem?_eq_some_iff.1 hf1.block).1 (nrow hf1.block (by decide))]; exact hf1.block
    refine ⟨⟨by unfold World.cell?; rw [hp2]; rfl, by simp [World.frozen?, hp2], by unfold World.cell?; rw [hg2]; rfl, by simp [World.frozen?, hg2]⟩, layP fs (more x ys v'), filesP_layP _ _, ?_⟩
    have e2 := used_over hV.row.rising (y := more x ys v') hx rfl
    have e3 : (more x ys v').f.b.length = x.f.b.length + ys.length := by show (x.f.b ++ ys).length = _; rw [List.length_append]
    have e4 : usedM (filesP (layP fs (more x ys v'))) = usedM (filesP fs) + ys.length := by omega
    rw [e4]
    exact Left.behind hb (app_fin hV1 hx ys hy v' w2 ho hg hlo _) hV.within
  have hgp : x.g ≠ p := by
    obtain ⟨mo, hp, _⟩ := hV.block
    exact cells_apart (hV.row.file x hx).block hp (by decide)
  have FC := Lib.hid facts
  have FIN := Lib.hid fin
  clear facts fin hV hl hn hT hv hy hx
  obtain ⟨U, hU⟩ : ∃ U, usedM (filesP fs) = U := ⟨_, rfl⟩
  rw [hU] at hu hfull FC FIN hxu
  obtain ⟨xb, hxb⟩ : ∃ xb, x.f.b = xb := ⟨_, rfl⟩
  rw [hxb] at hxu FC FIN ⊢
  obtain ⟨g, hgx⟩ : ∃ g, x.g = g := ⟨_, rfl⟩
  rw [hgx] at FC FIN HC hgp
  obtain ⟨xv, hxv⟩ : ∃ xv, x.v = xv := ⟨_, rfl⟩
  rw [hxv] at FC FIN
  obtain ⟨zs, hzs⟩ : ∃ zs, xb ++ ys = zs := ⟨_, rfl⟩
  rw [hzs] at FIN ⊢
  have HZ := Lib.hid hzs
  clear hU hxb hgx hxv hzs
  have hpg : p ≠ g := hgp.symm
  go_enter Tryd.func8, Tryd.ntmps8
  go_wp2_with fail
  refine HC.out.mono ?_
  rintro e w1 ⟨rfl, hb⟩
  obtain ⟨c0, c1, d0, ho1, hb1, hl1⟩ := FC.out w1 hb
  have hwr2 : IntKind.i64.wrap (room - (U : Int)) = room - (U : Int) := wrap_in _ (by omega)
  have FIN2 := Lib.hid (FIN.out w1 hb)
  have HLE := Lib.hid (show xb.length + ys.length ≤ 1099511627776 by omega)
  have HA := Lib.hid hA
  have HUL := Lib.hid (show U + ys.length ≤ 1099511627776 by omega)
  clear FIN FC HC hb hA hxu
  go_wp2_with fail
  go_quiet (fail)
  have ho2 : Own .u8 5 (w1.drewN nq) base xv xb := ho1
  have hl2 : Lies .u8 (w1.drewN nq) (w1.drewN nq).heap.size A ys := hl1
  have hb2 : base ≤ (w1.drewN nq).heap.size := hb1
  have c1' : (w1.drewN nq).cell? ⟨p, 1, none⟩ = some (.int .i64 (U : Int)) := c1
  have d0' : (w1.drewN nq).cell? ⟨g, 0, none⟩ = some xv := d0
  have FIN3 : ∀ v' w2, Own .u8 5 w2 base v' zs → (w1.drewN nq).grownBy w2 xv.ownBlock → (v'.ownBlock = xv.ownBlock ∨ v'.ownBlock = some (w1.drewN nq).heap.size) → _ := fun v' w2 h1 h2 h3 => FIN2.out v' w2 h1 ⟨h2.os, h2.tape, h2.output, h2.size, h2.block⟩ h3
  have FIN4 := Lib.hid FIN3
  clear FIN3 FIN2 ho1 hl1 hb1 c1 d0 c0 hwr2 hr0 hr1 hu
  generalize w1.drewN nq = w0 at *
  obtain ⟨Ax, cx, hxe, _⟩ := ho2.form
  rw [hxe] at ho2 d0' FIN4
  clear hxe
  go_wp2_with (at_builtin; refine wpList_append_ints rfl (.tmp 42) (.tmp 43) 31 rfl base 5 .u8 i0 1 Tryd.underlying31 hi0 hz0 hz1 hz2 (by decide) (.slice Ax xb.length cx) xb rfl ho2 w0.heap.size A ys.length c ys rfl rfl hc hl2 HLE.out hb2 HA.out ?_; intro v2 w2 hown2 hgr2 hlo2; rw [HZ.out] at hown2; obtain ⟨⟨k1, k2, k3, k4⟩, fin⟩ := FIN4.out v2 w2 hown2 hgr2 hlo2; have FF := Lib.hid fin; obtain ⟨A2, c2, rfl, _⟩ := hown2.form; have hwa : wrap64 ((U : Int) + (ys.length : Int)) = (U : Int) + (ys.length : Int) := (by have := HUL.out; unfold wrap64; omega); clear fin hgr2 hown2 hl2 ho2 FIN4 c1' d0' hlo2)
  go_ret
  obtain ⟨fs', h1, h2⟩ := FF.out
  exact ⟨rfl, fs', h1, by rw [Int.natCast_add] at h2; exact h2⟩

/-- A new file, in no map yet. -/
def fresh (n : ByteArray) (g : Nat) : FileP := ⟨⟨n, [], 0⟩, g, .slice none 0 0⟩
theorem new_file (hV : VDiskU base S w p room u fs) (n : ByteArray) (hn : n.size ≤ maxLen) :
    VDiskU base (Grow S w (w.alloc (.cells #[.slice none 0 0, .int .i64 0] 52))) (w.alloc (.cells #[.slice none 0 0, .int .i64 0] 52)) p room u fs ∧
    VFile base (Grow S w (w.alloc (.cells #[.slice none 0 0, .int .i64 0] 52))) (w.alloc (.cells #[.slice none 0 0, .int .i64 0] 52)) (fresh n w.heap.size) ∧ (∀ y ∈ fs, y.f.name ≠ n → Apart (fresh n w.heap.size) y) := by
  have hb : Below w.heap.size w (w.alloc (.cells #[.slice none 0 0, .int .i64 0] 52)) := (Below.refl _ _).alloc (Nat.le_refl _) _
  refine ⟨(hV.below hb).mono (fun _ => .inl) (hV.within.grow hb.size), ⟨.inr ⟨Nat.le_refl _, by simp [fresh]⟩, ?_, Own.nil, fun h hh => by simp [fresh, Value.ownBlock] at hh, hn, fun c hc => by simp [fresh] at hc, Nat.le_refl _⟩, fun y hy _ => ⟨fun e => ?_, fun h hh => by simp [fresh, Value.ownBlock] at hh⟩⟩
  · show (w.heap.push _)[w.heap.size]? = _
    simp [fileCells, fresh]
  · have := (Array.getElem?_eq_some_iff.1 (hV.row.file y hy).block).1
    have e : w.heap.size = y.g := e
    omega
/-- The cells that Append writes, behind the append itself. -/
theorem app_cells (hV : VDiskU base S w p room u fs) {x : FileP} (hx : x ∈ fs) {w2 : World} (hg : w.grownBy w2 x.v.ownBlock) :
    w2.cell? ⟨p, 1, none⟩ = some (.int .i64 u) ∧ w2.frozen? ⟨p, 1, none⟩ = false ∧ w2.cell? ⟨x.g, 0, none⟩ = some x.v ∧ w2.frozen? ⟨x.g, 0, none⟩ = false := by
  have hf1 := hV.row.file x hx
  obtain ⟨mo, hp, _⟩ := hV.block
  have nrow : ∀ {i : Nat} {cs : Array Value} {t : TypeId}, w.heap[i]? = some (.cells cs t (0, 0)) → t ≠ 5 → some i ≠ x.v.ownBlock := fun {i cs t} hi ht e => by
    obtain ⟨cur, hc⟩ := own_block hf1.own e.symm
    exact cells_apart hi hc ht rfl
  have hp2 : w2.heap[p]? = some (.cells (diskCells room u mo) 44 (0, 0)) := by rw [hg.block p (hV.within.2 p hV.inS).2 (nrow hp (by decide))]; exact hp
  have hg2 : w2.heap[x.g]? = some (.cells (fileCells x) 52 (0, 0)) := by rw [hg.block x.g (Array.getElem?_eq_some_iff.1 hf1.block).1 (nrow hf1.block (by decide))]; exact hf1.block
  exact ⟨by unfold World.cell?; rw [hp2]; rfl, by simp [World.frozen?, hp2], by unfold World.cell?; rw [hg2]; rfl, by simp [World.frozen?, hg2]⟩
set_option maxHeartbeats 1600000 in
set_option maxRecDepth 4000 in
theorem vappend_none (hV : VDisk base S w p room fs) (n : ByteArray) (hh : hasF (filesP fs) n = false) (A : Option Addr) (ys : List Int) (c : Nat) (hn : n.size ≤ 281474976710656) (hT : Tabs w) (hv : validS n = true) (hr0 : 0 ≤ room) (hr1 : room ≤ 9223372036854775807) (hu : usedM (filesP fs) ≤ 549755813888) (hfl : fs.length < 1000000000)
    (hfull : ¬ room - (usedM (filesP fs) : Int) < (ys.length : Int)) (hl : LiesOff S w A ys) (hc : ys.length ≤ c) (hA : A = none → c = 0) (hy : IsBytes ys) (hyl : ys.length ≤ 549755813888) :
    Calls Tryd.prog 8 #[.pointer (some ⟨p, 0, none⟩), .string n, .slice A ys.length c] w (Does base S p room (appendM room (filesP fs) n ys) w) := by
  have hnm : n.size ≤ maxLen := by unfold maxLen; omega
  obtain ⟨i0, hi0, hz0, hz1, hz2⟩ := info_parts byte_info
  rw [appendM_ok hv hfull, ofName_none hh]
  have hno := not_file hV.row.rising hh
  have HC := Lib.hid (vfind_none hV n hnm hT hv hh)
  have facts : ∀ w1, Below w.heap.size w w1 → w1.cell? ⟨p, 0, none⟩ = some (.int .i64 room) ∧ w1.cell? ⟨p, 1, none⟩ = some (.int .i64 ((usedM (filesP fs) : Nat) : Int)) ∧
      Calls Tryd.prog 15 #[.pointer (some ⟨p, 0, none⟩), .string n, .pointer (some ⟨w1.heap.size, 0, none⟩)] (w1.alloc (.cells #[.slice none 0 0, .int .i64 0] 52)) fun e w2 => e = .returned (.tuple #[]) ∧
        (w2.cell? ⟨p, 1, none⟩ = some (.int .i64 ((usedM (filesP fs) : Nat) : Int)) ∧ w2.cell? ⟨w1.heap.size, 0, none⟩ = some (.slice none 0 0) ∧ base ≤ w2.heap.size ∧ Lies .u8 w2 w2.heap.size A ys) ∧
        ∀ v' w3, Own .u8 5 w3 base v' ys → w2.grownBy w3 none → (v'.ownBlock = none ∨ v'.ownBlock = some w2.heap.size) →
          (w3.cell? ⟨p, 1, none⟩ = some (.int .i64 ((usedM (filesP fs) : Nat) : Int)) ∧ w3.frozen? ⟨p, 1, none⟩ = false ∧ w3.cell? ⟨w1.heap.size, 0, none⟩ = some (.slice none 0 0) ∧ w3.frozen? ⟨w1.heap.size, 0, none⟩ = false) ∧
          ∃ fs', filesP fs' = layF (filesP fs) ⟨n, [] ++ ys, 0 + ys.length⟩ ∧ Left base S w ((w3.setCell ⟨w1.heap.size, 0, none⟩ v').setCell ⟨p, 1, none⟩ (.int .i64 (((usedM (filesP fs) + ys.length : Nat)) : Int))) p room ((usedM (filesP fs') : Nat) : Int) fs' := fun w1 hb => by
    have hV1 := hV.below hb
    obtain ⟨mo, c0, c1, _⟩ := hV1.cells
    have hba : Below w1.heap.size w1 (w1.alloc (.cells #[.slice none 0 0, .int .i64 0] 52)) := (Below.refl _ _).alloc (Nat.le_refl _) _
    obtain ⟨hVa, hfa, haa⟩ := new_file hV1 n hnm
    refine ⟨c0, c1, (vset_any hVa (fresh n w1.heap.size) hfa haa hn hfl).mono ?_⟩
    rintro e w2 ⟨rfl, hk2, hV2⟩
    have hx2 := self_layP fs (fresh n w1.heap.size)
    obtain ⟨mo2, _, d1, _⟩ := hV2.cells
    have hlw := hl.keep (Keep.of_below (S := S) hb)
    have hl1 : LiesOff S w1 A ys := hlw.mono fun i _ h => .inl h
    have hla := hl1.keep (Keep.of_below (S := S) hba)
    refine ⟨rfl, ⟨d1, (hV2.row.file _ hx2).cells.1, hV2.within.1, (hla.keep hk2).lies⟩, fun v' w3 ho hg hlo => ⟨app_cells hV2 hx2 hg, layP fs (more (fresh n w1.heap.size) ys v'), filesP_layP _ _, ?_⟩⟩
    have e4 : usedM (filesP (layP fs (more (fresh n w1.heap.size) ys v'))) = usedM (filesP fs) + ys.length := by
      rw [used_new (fun x hx => hno x hx)]
      rfl
    have h5 := app_fin hV2 hx2 ys hy v' w3 ho hg hlo (((usedM (filesP fs) + ys.length : Nat)) : Int)
    rw [layP_layP hV.row.rising (by rfl)] at h5
    rw [e4]
    exact Left.behind hb (Left.trans hV1.within (Keep.of_below hba) (Left.trans hVa.within hk2 h5)) hV.within
  have FC := Lib.hid facts
  have HP := Lib.hid (hV.within.2 p hV.inS).2
  clear facts hV hl hn hT hv hy hh hno hnm hfl
  obtain ⟨U, hU⟩ : ∃ U, usedM (filesP fs) = U := ⟨_, rfl⟩
  rw [hU] at hu hfull FC
  obtain ⟨R, hR⟩ : ∃ R, layF (filesP fs) ⟨n, [] ++ ys, 0 + ys.length⟩ = R := ⟨_, rfl⟩
  rw [hR] at FC ⊢
  clear hU hR
  go_enter Tryd.func8, Tryd.ntmps8
  go_wp2_with fail
  refine HC.out.mono ?_
  rintro e w1 ⟨rfl, hb⟩
  obtain ⟨c0, c1, _⟩ := FC.out w1 hb
  have hwr2 : IntKind.i64.wrap (room - (U : Int)) = room - (U : Int) := wrap_in _ (by omega)
  have HLE := Lib.hid (show ys.length ≤ 1099511627776 by omega)
  have HA := Lib.hid hA
  have HUL := Lib.hid (show U + ys.length ≤ 1099511627776 by omega)
  have HPG := Lib.hid (show p < w1.heap.size from Nat.lt_of_lt_of_le HP.out hb.size)
  clear HC hA HP
  go_wp2_with fail
  go_quiet (fail)
  have hbq : Below w.heap.size w (w1.drewN nq) := ⟨hb.os, hb.tape, hb.output, hb.size, hb.block⟩
  obtain ⟨_, _, hset⟩ := FC.out _ hbq
  have HS := Lib.hid hset
  have HPG2 := Lib.hid (show p < (w1.drewN nq).heap.size from HPG.out)
  clear FC hset hb hbq c0 c1 hwr2 hr0 hr1 hu HPG
  generalize w1.drewN nq = w0 at *
  go_wp2_with fail
  refine HS.out.mono ?_
  rintro e w2 ⟨rfl, ⟨d1, d0, hb2, hl2⟩, fin⟩
  have FIN4 := Lib.hid fin
  clear HS fin
  have hgp : w0.heap.size ≠ p := by have := HPG2.out; omega
  obtain ⟨g, hg⟩ : ∃ g, w0.heap.size = g := ⟨_, rfl⟩
  rw [hg] at d0 FIN4 hgp ⊢
  clear hg HPG2
  have hpg : p ≠ g := hgp.symm
  go_wp2_with (at_builtin; refine wpList_append_ints rfl (.tmp 42) (.tmp 43) 31 rfl base 5 .u8 i0 1 Tryd.underlying31 hi0 hz0 hz1 hz2 (by decide) (.slice none 0 0) [] rfl Own.nil w2.heap.size A ys.length c ys rfl rfl hc hl2 (by simpa using HLE.out) hb2 HA.out ?_; intro v2 w3 hown2 hgr2 hlo2; rw [List.nil_append] at hown2; obtain ⟨⟨k1, k2, k3, k4⟩, fin⟩ := FIN4.out v2 w3 hown2 hgr2 hlo2; have FF := Lib.hid fin; obtain ⟨A2, c2, rfl, _⟩ := hown2.form; have hwa : wrap64 ((U : Int) + (ys.length : Int)) = (U : Int) + (ys.length : Int) := (by have := HUL.out; unfold wrap64; omega); clear fin hgr2 hown2 hl2 FIN4 d0 d1 hlo2)
  go_ret
  obtain ⟨fs', h1, h2⟩ := FF.out
  exact ⟨rfl, fs', h1, by rw [Int.natCast_add] at h2; exact h2⟩

theorem vappend_any (hV : VDisk base S w p room fs) (n : ByteArray) (A : Option Addr) (ys : List Int) (c : Nat) (hn : n.size ≤ 281474976710656) (hT : Tabs w) (hr0 : 0 ≤ room) (hr1 : room ≤ 9223372036854775807) (hu : usedM (filesP fs) ≤ 549755813888) (hfl : fs.length < 1000000000)
    (hl : LiesOff S w A ys) (hc : ys.length ≤ c) (hA : A = none → c = 0) (hy : IsBytes ys) (hyl : ys.length ≤ 549755813888) :
    Calls Tryd.prog 8 #[.pointer (some ⟨p, 0, none⟩), .string n, .slice A ys.length c] w (Does base S p room (appendM room (filesP fs) n ys) w) := by
  have hnm : n.size ≤ maxLen := by unfold maxLen; omega
  cases hv : validS n with
  | false => exact vappend_bad hV n A ys c hnm hT hv
  | true =>
    by_cases hfull : room - (usedM (filesP fs) : Int) < (ys.length : Int)
    · exact vappend_full hV n A ys c hnm hT hv hr0 hr1 (by omega) hfull
    · cases hh : hasF (filesP fs) n with
      | false => exact vappend_none hV n hh A ys c hn hT hv hr0 hr1 hu hfl hfull hl hc hA hy hyl
      | true =>
        obtain ⟨x, hx, hxn, _⟩ := has_file hh
        exact vappend_some hV hx n hxn A ys c hnm hT hv hr0 hr1 hu hfull hl hc hA hy hyl
end
end Go.Proofs.YtefjbefmmmllbaaDoor
