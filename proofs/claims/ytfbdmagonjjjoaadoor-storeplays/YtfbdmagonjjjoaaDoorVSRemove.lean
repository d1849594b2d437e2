/- Contracts of the program's own put, whatever comes, and of remove. -/
import Derived.Test.YtfbdmagonjjjoaaDoorVSPut
namespace Go.Proofs.YtfbdmagonjjjoaaDoor
open Go.RowKit Go.Maps

theorem as_err (v : Value) (w : World) : (Instr.typeAssert (.iface 29 v) 20 29 true).run Tryd.prog w = .ok (.tuple #[v, .bool true]) w := by kernel_rfl
theorem err_bytes (v : Value) (w : World) : (Instr.typeAssert (.iface 29 v) 20 32 true).run Tryd.prog w = .ok (.tuple #[.slice none 0 0, .bool false]) w := by kernel_rfl
theorem err_names (v : Value) (w : World) : (Instr.typeAssert (.iface 29 v) 20 60 true).run Tryd.prog w = .ok (.tuple #[.slice none 0 0, .bool false]) w := by kernel_rfl
theorem as_bytes (v : Value) (w : World) : (Instr.typeAssert (.iface 32 v) 20 32 true).run Tryd.prog w = .ok (.tuple #[v, .bool true]) w := by kernel_rfl
theorem bytes_err (v : Value) (w : World) : (Instr.typeAssert (.iface 32 v) 20 29 true).run Tryd.prog w = .ok (.tuple #[.int .i64 0, .bool false]) w := by kernel_rfl
theorem as_names (v : Value) (w : World) : (Instr.typeAssert (.iface 60 v) 20 60 true).run Tryd.prog w = .ok (.tuple #[v, .bool true]) w := by kernel_rfl
theorem names_err (v : Value) (w : World) : (Instr.typeAssert (.iface 60 v) 20 29 true).run Tryd.prog w = .ok (.tuple #[.int .i64 0, .bool false]) w := by kernel_rfl

section
variable {base : Nat} {S : Nat → Prop} {w : World} {p : Nat} {room u : Int} {fs : List FileP} {bad : List Int}
theorem vput_any (hV : VStore base S w p room fs bad) (n : ByteArray) (A : Option Addr) (ys : List Int) (c : Nat) (hn : n.size ≤ 281474976710656) (hT : Tabs w) (hr0 : 0 ≤ room) (hr1 : room ≤ 9223372036854775807) (hu : usedM (filesP fs) ≤ 1099511627776) (hys : IsBytes ys)
    (hl : LiesOff S w A ys) (hA : A = none → c = 0) (hcl : ys.length ≤ c) (hyl : ys.length ≤ 549755813888) (hlen : fs.length < 1000000000) :
    Calls Tryd.prog 18 #[.pointer (some ⟨p, 0, none⟩), .string n, .slice A ys.length c] w (DoesI base S p room bad (putM room (filesP fs) n ys) w) := by
  have hnm : n.size ≤ maxLen := by unfold maxLen; omega
  cases hv : validS n with
  | false => exact vput_bad hV n A ys c hnm hT hv
  | true =>
    by_cases hf : room - ((usedM (filesP fs) : Int) - ((ofName (filesP fs) n).b.length : Int)) < (ys.length : Int)
    · exact vput_full hV n A ys c hnm hT hv hr0 hr1 hu hf
    · exact vput_right hV n A ys c hn hT hv hr0 hr1 hu hys hl hA hcl hyl hlen hf

/-- delete of a name, when it is there. -/
theorem MapF.strike {mo : Option Nat} (h : MapF S w mo fs) (hr : Rising (filesP fs)) {n : ByteArray} (hn : n.size ≤ maxLen) (hh : hasF (filesP fs) n = true) (ty : TypeId) :
    ∃ mb w', mo = some mb ∧ S mb ∧ (Builtin.delete_ #[46, 9] ty #[.map mo, .string n]).run Tryd.prog w = .ok (.tuple #[]) w' ∧ w.mapTurned w' mb ∧ w'.ownsMap Tryd.prog 9 slElem mb (delP fs n).length (mapD (delP fs n)) := by
  rcases h with ⟨rfl, rfl⟩ | ⟨mb, rfl, h2, h3⟩
  · cases hh
  · obtain ⟨w', hrun, ho, ht⟩ := h3.drop keyedS Tryd.underlying46 (keyOf_name hn) ty
    rw [map_del hr hh] at ho
    exact ⟨mb, w', rfl, h2, hrun, ht, ownsMap_size ho⟩
/-- An object struck from the map, behind a write of what is used. -/
theorem del_fin (hV : VStoreU base S w p room u fs bad) {n : ByteArray} (hn : n.size ≤ maxLen) (hhas : hasF (filesP fs) n = true) (u' : Int) :
    ∃ mo w', w.cell? ⟨p, 2, none⟩ = some (.map mo) ∧ (w.setCell ⟨p, 1, none⟩ (.int .i64 u')).cell? ⟨p, 2, none⟩ = some (.map mo) ∧ (∀ ty, (Builtin.delete_ #[46, 9] ty #[.map mo, .string n]).run Tryd.prog (w.setCell ⟨p, 1, none⟩ (.int .i64 u')) = .ok (.tuple #[]) w') ∧
      Left base S w w' p room u' (delP fs n) bad := by
  obtain ⟨mo, fv, hp, hm, hfl⟩ := hV.block
  have hp1 : (w.setCell ⟨p, 1, none⟩ (.int .i64 u')).heap[p]? = some (.cells (storeCells room u' mo fv) 48 (0, 0)) := by
    rw [Go.heap_setCell_same w p 1 _ _ _ hp]
    rfl
  have hm1 : MapF S (w.setCell ⟨p, 1, none⟩ (.int .i64 u')) mo fs := by
    rcases hm with hm | ⟨mb, h1, h2, h3⟩
    · exact .inl hm
    · exact .inr ⟨mb, h1, h2, h3.setCell (a := ⟨p, 1, none⟩) (fun e => map_apart hp h3 e.symm) _⟩
  obtain ⟨mb, w', hmo, hS, hrun, ht, ho⟩ := hm1.strike hV.row.rising hn hhas 0
  have hgr := ht.grown
  have ntm : ∀ {i : Nat} {cs : Array Value} {t : TypeId}, w.heap[i]? = some (.cells cs t (0, 0)) → i ≠ mb := fun {i cs t} hi => by
    rcases hm with ⟨h1, _⟩ | ⟨mb', h1, h2, h3⟩
    · rw [h1] at hmo; cases hmo
    · obtain rfl : mb' = mb := by rw [h1] at hmo; exact Option.some.inj hmo
      exact map_apart hi h3
  have hpm : p ≠ mb := ntm hp
  have hsz : (w.setCell ⟨p, 1, none⟩ (.int .i64 u')).heap.size = w.heap.size := by simp
  have oth : ∀ i, i < w.heap.size → i ≠ p → i ≠ mb → w'.heap[i]? = w.heap[i]? := fun i h0 h1 h2 => by
    rw [hgr.block i (by omega) (fun e => h2 (Option.some.inj e)), heap_setCell_other _ _ _ _ h1]
  have hk : Keep S w w' := ((Keep.refl S w).setCell (p := ⟨p, 1, none⟩) (.inl hV.inS) _).grown hgr fun k hk => .inl (by have := Option.some.inj hk; rw [← this]; exact hS)
  have bp : w'.heap[p]? = some (.cells (storeCells room u' mo fv) 48 (0, 0)) := by
    rw [hgr.block p (by rw [hsz]; exact hV.lt) (fun e => hpm (Option.some.inj e))]
    exact hp1
  refine ⟨mo, w', by unfold World.cell?; rw [hp]; rfl, by unfold World.cell?; rw [hp1]; rfl, fun ty => hrun, hk, hV.within.grow hk.size, .inl hV.inS, ⟨mo, fv, bp, .inr ⟨mb, hmo, .inl hS, ho⟩, ?_⟩, fun y hy => ?_, ?_, ?_⟩
  · refine hfl.same (fun _ => .inl) fun i cur hi hc => oth i (Array.getElem?_eq_some_iff.1 hc).1 (cells_apart hc hp (by decide)) (ntm hc)
  · refine (hV.row.file y (mem_delP hy)).same (fun _ => .inl) fun g hg => ?_
    obtain ⟨cur, hc⟩ := own_block (hV.row.file y (mem_delP hy)).own hg
    exact oth g (Array.getElem?_eq_some_iff.1 hc).1 (cells_apart hc hp (by decide)) (ntm hc)
  · exact hV.row.apart.sublist (delP_sub fs n)
  · exact List.Pairwise.sublist ((delP_sub fs n).map FileP.f) hV.row.rising

theorem removeM_bad {l : List FileM} {n : ByteArray} (h : validS n = false) : removeM l n = (l, 6) := by unfold removeM; rw [getM_bad h]; rfl
theorem removeM_none {l : List FileM} {n : ByteArray} (h : validS n = true) (hh : hasF l n = false) : removeM l n = (l, 8) := by unfold removeM; rw [getM_none h hh]; rfl
theorem removeM_some {x : FileP} (hr : Rising (filesP fs)) (hx : x ∈ fs) (h : validS x.f.name = true) : removeM (filesP fs) x.f.name = (filesP (delP fs x.f.name), 0) := by
  unfold removeM
  rw [getP_some hr hx h, filesP_delP]
  rfl
set_option maxHeartbeats 1600000 in
set_option maxRecDepth 4000 in
theorem vremove_any (hV : VStore base S w p room fs bad) (n : ByteArray) (hn : n.size ≤ maxLen) (hT : Tabs w) (hu : usedM (filesP fs) ≤ 1099511627776) :
    Calls Tryd.prog 30 #[.pointer (some ⟨p, 0, none⟩), .string n] w (DoesI base S p room bad (removeM (filesP fs) n) w) := by
  have a1 := err_bytes
  have a2 := as_bytes
  cases hv : validS n with
  | false =>
    rw [removeM_bad hv]
    have HC := Lib.hid (vget_bad (p := p) n hn hT hv)
    have HV := Lib.hid hV
    clear hV hn hT hv
    go_enter Tryd.func30, Tryd.ntmps30
    go_wp2_with fail
    refine HC.out.mono ?_
    rintro e w1 ⟨rfl, hb⟩
    go_wp2
    go_ret
    exact ⟨rfl, fs, rfl, Left.of_below HV.out hb⟩
  | true =>
    cases hh : hasF (filesP fs) n with
    | false =>
      rw [removeM_none hv hh]
      have HC := Lib.hid (vget_none hV n hn hT hv hh)
      have HV := Lib.hid hV
      clear hV hn hT hv hh
      go_enter Tryd.func30, Tryd.ntmps30
      go_wp2_with fail
      refine HC.out.mono ?_
      rintro e w1 ⟨rfl, hb⟩
      go_wp2
      go_ret
      exact ⟨rfl, fs, rfl, Left.of_below HV.out hb⟩
    | true =>
      obtain ⟨x, hx, rfl, _⟩ := has_file hh
      rw [removeM_some hV.row.rising hx hv]
      obtain ⟨A, c, hvv, hl1, hl2⟩ := (hV.row.file x hx).own.form
      have hud := used_del hV.row.rising hx
      have HC := Lib.hid (vget_some hV x hx _ rfl hn hT hv)
      rw [hvv] at HC
      have hfin : ∀ w1, Below w.heap.size w w1 → w1.cell? ⟨p, 1, none⟩ = some (.int .i64 ((usedM (filesP fs) : Nat) : Int)) ∧ w1.frozen? ⟨p, 1, none⟩ = false ∧ ∃ mo w', (w1.setCell ⟨p, 1, none⟩ (.int .i64 ((usedM (filesP fs) : Int) - (x.f.b.length : Int)))).cell? ⟨p, 2, none⟩ = some (.map mo) ∧ (∀ ty, (Builtin.delete_ #[46, 9] ty #[.map mo, .string x.f.name]).run Tryd.prog (w1.setCell ⟨p, 1, none⟩ (.int .i64 ((usedM (filesP fs) : Int) - (x.f.b.length : Int)))) = .ok (.tuple #[]) w') ∧
          Left base S w w' p room ((usedM (filesP (delP fs x.f.name)) : Nat) : Int) (delP fs x.f.name) bad := fun w1 hb => by
        have hV1 : VStore base S w1 p room fs bad := hV.below hb
        obtain ⟨mo0, fv0, _, k1, _⟩ := hV1.cells
        obtain ⟨mo, w', h1, h2, h3, h4⟩ := del_fin hV1 hn hh ((usedM (filesP fs) : Int) - (x.f.b.length : Int))
        refine ⟨k1, hV1.thaw 1, mo, w', h2, h3, ?_⟩
        rw [show ((usedM (filesP (delP fs x.f.name)) : Nat) : Int) = (usedM (filesP fs) : Int) - (x.f.b.length : Int) by omega]
        exact Left.behind hb h4 hV.within
      have FIN := Lib.hid hfin
      obtain ⟨U, hU⟩ : ∃ U, usedM (filesP fs) = U := ⟨_, rfl⟩
      obtain ⟨L, hL⟩ : ∃ L, x.f.b.length = L := ⟨_, rfl⟩
      obtain ⟨n, hN⟩ : ∃ n, x.f.name = n := ⟨_, rfl⟩
      rw [hL] at FIN HC hud
      rw [hU] at FIN hu hud
      rw [hN] at FIN HC hud ⊢
      have hw : wrap64 ((U : Int) - (L : Int)) = (U : Int) - (L : Int) := by unfold wrap64; omega
      clear hV hn hT hv hh hx hvv hfin hU hL hN hl1 hl2
      go_enter Tryd.func30, Tryd.ntmps30
      go_wp2_with fail
      refine HC.out.mono ?_
      rintro e w1 ⟨rfl, hb⟩
      obtain ⟨c1, z1, mo, w', c2, hdel, LFT⟩ := FIN.out w1 hb
      go_wp2
      go_ret
      exact ⟨rfl, _, rfl, LFT⟩
end
end Go.Proofs.YtfbdmagonjjjoaaDoor
