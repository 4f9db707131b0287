/- Numbers as structs: Floor and Ceil. -/
import Derived.Test.YtgmmcfnahfcadaaDoorDyh
import Derived.Test.YtgmmcfnahfcadaaDoorDyg
namespace Go.Proofs.YtgmmcfnahfcadaaDoor
open Go.RowKit

theorem len_one : len 1 = 1 := by rw [len_pos (by decide), show 1 / 4294967296 = 0 by decide, len_zero]
theorem ofInt_one (w : World) : Calls Tryd.prog 70 #[I 1] w (NatRes 1 w) := ofInt_any 1 w (by omega) (by omega)
theorem Dy.self {w : World} {neg : Bool} {A A' : Option Addr} {n c c' : Nat} {den : Int} {d : DV} (h : Dy w neg A n c den d A' c') : Dy w d.neg A' (len d.m) c' d.den d A' c' := Dy.valid h.rd h.sl h.wf h.lim
theorem DyOk.of {d : DV} {w W w2 : World} {A : Option Addr} {c : Nat} {e : Ending} (he : e = .returned (.tuple #[dv d.neg A (len d.m) c d.den, .nilIface])) (hon : On w2 W.heap.size A (len d.m) c (dg d.m)) (hx : Ext w w2) (hW : w.heap.size ≤ W.heap.size) : DyOk d w e w2 := ⟨A, c, he, hon.mono hW, hx⟩
theorem len_succ (m : Nat) : len (m + 1) ≤ len m + 1 := by
  refine len_le ?_
  have := lt_pB_len m
  have := pB_pos (len m)
  rw [pB_succ]; omega
/-- Behind a call: a box and a result, both one's own. -/
theorem two_bx {w w1 : World} {u0 u1 u2 v0 v1 v2 : Value} {t t' : TypeId} (hx : Ext ((w.alloc (.cells #[u0, u1, u2] t)).alloc (.cells #[v0, v1, v2] t')) w1) :
    Bx w1 w.heap.size u0 u1 u2 ∧ Bx w1 (w.heap.size + 1) v0 v1 v2 ∧ Ext w w1 := by
  have s1 := ((Bx.new w u0 u1 u2 t).ext (Ext.alloc _ (.cells #[v0, v1, v2] t'))).ext hx
  have s2 := Bx.new (w.alloc (.cells #[u0, u1, u2] t)) v0 v1 v2 t'
  rw [show (w.alloc (.cells #[u0, u1, u2] t)).heap.size = w.heap.size + 1 by simp] at s2
  exact ⟨s1, s2.ext hx, ((Ext.alloc _ _).trans (Ext.alloc _ _)).trans hx⟩
/-- What 'a = number(a)' leaves. -/
def One (w : World) (a : DV) (A : Option Addr) (ca : Nat) (wx : World) : Prop :=
  Ext w wx ∧ Bx wx w.heap.size (.bool a.neg) (.slice A (len a.m) ca) (I a.den) ∧ Bx wx (w.heap.size + 1) (.bool false) (.slice none 0 0) (I 0)
theorem one_of {w w1 : World} {a : DV} {A : Option Addr} {ca : Nat} {u0 u1 u2 : Value} {t t' : TypeId} (hx : Ext ((w.alloc (.cells #[u0, u1, u2] t)).alloc (.cells #[.bool false, .slice none 0 0, I 0] t')) w1) :
    One w a A ca (((w1.setCell ⟨w.heap.size, 0, none⟩ (.bool a.neg)).setCell ⟨w.heap.size, 1, none⟩ (.slice A (len a.m) ca)).setCell ⟨w.heap.size, 2, none⟩ (I a.den)) := by
  obtain ⟨h1, h2, h3⟩ := two_bx hx
  exact ⟨ext_set3 h3 (Nat.le_refl _) _ _ _, h1.set3 _ _ _, h2.far3 (by omega) _ _ _⟩
theorem keepO {w w0 w' : World} {a : DV} {A : Option Addr} {ca : Nat} (h : One w a A ca w0) (e : Ext w0 w') : One w a A ca w' := ⟨h.1.trans e, h.2.1.ext e, h.2.2.ext e⟩
theorem floor_small {d : DV} {k : Nat} (h : d.den ≤ k) : floorD d k = d := by unfold floorD; rw [if_pos h]
theorem floor_big {d : DV} {k : Nat} (h : k < d.den) : floorD d k = mkD d.neg (d.m / 2 ^ (d.den - k) + if d.neg then 1 else 0) k := by unfold floorD; rw [if_neg (by omega)]

set_option maxRecDepth 100000 in
set_option maxHeartbeats 1000000 in
theorem floor_any {w : World} {neg : Bool} {A A' : Option Addr} {n c c' : Nat} {den : Int} {d : DV} (k : Nat) (h : Dy w neg A n c den d A' c') (hT : Tabs w) (hk : k ≤ 65536) : Calls Tryd.prog 16 #[dv neg A n c den, I k] w (DyOk (floorD d k) w) := by
  have H := Lib.hid h; have HT := Lib.hid hT; clear h hT
  have hd1 := H.out.wf.2.1
  have hl1 := H.out.lim
  by_cases hdk : d.den ≤ k
  · rw [floor_small hdk]
    go_enter Tryd.func16, Tryd.ntmps16
    go_wp2_with (first
      | (go_at_call 65; refine (isGrid_t _ _ (by omega) (by omega)).mono ?_; rintro e w' ⟨rfl, rfl⟩)
      | (go_at_call 66; refine (H.out.num _ ((Ext.alloc _ _).trans (Ext.alloc _ _))).mono ?_; rintro e w1 ⟨rfl, hx⟩; obtain ⟨⟨k0, k1, k2⟩, s1, hz, hx1⟩ := two_boxes hx; have S1 := Lib.hid s1; have HX := Lib.hid hx1; obtain ⟨hc, hf⟩ := hx.old; clear hx hx1 s1))
    have HW := Lib.hid (ext_set3 HX.out (Nat.le_refl _))
    refine (fresh_any (H.out.self.ext (HW.out _ _ _)) (HT.out.ext (HW.out _ _ _))).mono ?_
    rintro e w2 ⟨A2, c2, rfl, hon, hx⟩
    obtain ⟨r0, r1, r2⟩ := (S1.out.far3 (by omega) _ _ _).ext hx
    obtain ⟨hc2, hf2⟩ := hx.old
    have HX2 := Lib.hid ((HW.out _ _ _).trans hx)
    have HO := Lib.hid hon
    clear hon hx
    go_wp2_with fail
    exact bodyPost_ret (v := .tuple #[dv d.neg A2 (len d.m) c2 d.den, .nilIface]) (by simp [results, Tryd.results16, go_sem, r0, r1, r2]) rfl (DyOk.end3 rfl HO.out HX2.out (by simp; omega) (by omega) (by simp; omega))
  · have hdk' : k < d.den := by omega
    obtain ⟨j, hj⟩ : ∃ j, d.den - k = j := ⟨_, rfl⟩
    have ej : (d.den : Int) - (k : Int) = (j : Int) := by omega
    have hjl : j ≤ 65536 := by omega
    rw [floor_big hdk', hj]
    clear hj
    have hl2 : len (d.m / 2 ^ j) ≤ 16777216 := Nat.le_trans (len_mono (Nat.div_le_self _ _)) hl1
    have hl3 := len_succ (d.m / 2 ^ j)
    obtain ⟨x, hx⟩ : ∃ x, d.m / 2 ^ j = x := ⟨_, rfl⟩
    rw [hx] at hl2 hl3
    rw [hx]
    have HX := Lib.hid hx
    clear hx
    cases hn : d.neg with
    | false =>
      have HD' : Hid (nrmI false x (k : Int) = mkD false (x + if false = true then 1 else 0) k) := by
        show _ = _
        rw [nrmI_nat]; rfl
      generalize mkD false (x + if false = true then 1 else 0) k = d' at *
      clear hl3
      go_enter Tryd.func16, Tryd.ntmps16
      go_upto_region 3 with (go_at_call 65; refine (isGrid_t _ _ (by omega) (by omega)).mono ?_; rintro e w' ⟨rfl, rfl⟩)
      go_cut [] (fun wx => One w d A' c' wx)
      case first =>
        go_wp2_with (go_at_call 66; refine (H.out.num _ ((Ext.alloc _ _).trans (Ext.alloc _ _))).mono ?_; rintro e w1 ⟨rfl, hx⟩; obtain ⟨hc, hf⟩ := hx.old; have HO := Lib.hid (one_of (a := d) (A := A') (ca := c') hx); clear hx)
        go_meet
        have := HO.out
        rw [hn] at this
        exact this
      case rest =>
        have HO := Lib.hid hcut
        obtain ⟨hE, ⟨⟨k0, k1, k2⟩, g0⟩, ⟨⟨r0, r1, r2⟩, g1⟩⟩ := hcut
        rw [hn] at k0
        have HE := Lib.hid hE
        clear hE
        go_wp2_with (first
          | (go_at_call 68; refine (shiftRight_any A' d.m j c' _ (H.out.rd.ext HE.out) H.out.sl (by omega) (by omega)).mono ?_; rintro e w2 ⟨A2, c2, rfl, hon, hx⟩; rw [HX.out] at hon; rw [HX.out]; obtain ⟨hE2, ⟨⟨k0, k1, k2⟩, g0⟩, ⟨⟨r0, r1, r2⟩, g1⟩⟩ := keepO HO.out hx; rw [hn] at k0; have HE2 := Lib.hid hE2; have HON := Lib.hid hon; have HX2 := Lib.hid hx; clear hE2 hon hx)
          | (go_at_call 71; refine (normal_at _ A2 x c2 _ _ d' HD'.out (HT.out.ext HE2.out) HON.out.rd HON.out.ok (by omega) (by omega) (by omega)).mono ?_; rintro e w3 ⟨A3, c3, rfl, hon, hx⟩; have HO3 := Lib.hid (keepO HO.out (HX2.out.trans hx)); obtain ⟨hE3, ⟨⟨k0, k1, k2⟩, g0⟩, ⟨⟨r0, r1, r2⟩, g1⟩⟩ := keepO HO.out (HX2.out.trans hx); have HE3 := Lib.hid hE3; have HON3 := Lib.hid hon; clear hE3 hon; have hsz := HX2.out.size; clear hx))
        have hlt := (keepO HO.out HX2.out).2.2.lt
        exact bodyPost_ret (v := .tuple #[dv d'.neg A3 (len d'.m) c3 d'.den, .nilIface]) (by simp [results, Tryd.results16, go_sem, r0, r1, r2]) rfl (DyOk.end3 rfl HON3.out HE3.out (by omega) (by omega) hlt)
    | true =>
      have HD' : Hid (nrmI true (x + 1) (k : Int) = mkD true (x + if true = true then 1 else 0) k) := by
        show _ = _
        rw [nrmI_nat]; rfl
      generalize mkD true (x + if true = true then 1 else 0) k = d' at *
      go_enter Tryd.func16, Tryd.ntmps16
      go_upto_region 3 with (go_at_call 65; refine (isGrid_t _ _ (by omega) (by omega)).mono ?_; rintro e w' ⟨rfl, rfl⟩)
      go_cut [] (fun wx => One w d A' c' wx)
      case first =>
        go_wp2_with (go_at_call 66; refine (H.out.num _ ((Ext.alloc _ _).trans (Ext.alloc _ _))).mono ?_; rintro e w1 ⟨rfl, hx⟩; obtain ⟨hc, hf⟩ := hx.old; have HO := Lib.hid (one_of (a := d) (A := A') (ca := c') hx); clear hx)
        go_meet
        have := HO.out
        rw [hn] at this
        exact this
      case rest =>
        have HO := Lib.hid hcut
        obtain ⟨hE, ⟨⟨k0, k1, k2⟩, g0⟩, ⟨⟨r0, r1, r2⟩, g1⟩⟩ := hcut
        rw [hn] at k0
        have HE := Lib.hid hE
        clear hE
        go_wp2_with (first
          | (go_at_call 68; refine (shiftRight_any A' d.m j c' _ (H.out.rd.ext HE.out) H.out.sl (by omega) (by omega)).mono ?_; rintro e w2 ⟨A2, c2, rfl, hon, hx⟩; rw [HX.out] at hon; rw [HX.out]; obtain ⟨hE2, ⟨⟨k0, k1, k2⟩, g0⟩, ⟨⟨r0, r1, r2⟩, g1⟩⟩ := keepO HO.out hx; rw [hn] at k0; have HE2 := Lib.hid hE2; have HON := Lib.hid hon; have HX2 := Lib.hid hx; clear hE2 hon hx)
          | (go_at_call 70; refine (ofInt_one _).mono ?_; rintro e w3 ⟨A3, c3, rfl, hon, hx⟩; obtain ⟨hE3, ⟨⟨k0, k1, k2⟩, g0⟩, ⟨⟨r0, r1, r2⟩, g1⟩⟩ := keepO HO.out (HX2.out.trans hx); rw [hn] at k0; have HE3 := Lib.hid hE3; have HON3 := Lib.hid hon; have HX3 := Lib.hid (HX2.out.trans hx); have HX23 := Lib.hid hx; clear hE3 hon hx)
          | (go_at_call 69; refine (sum_any A2 A3 x 1 c2 c3 _ (HON.out.rd.ext HX23.out) HON3.out.rd HON.out.ok HON3.out.ok (by omega) (by have := len_one; omega)).mono ?_; rintro e w4 ⟨A4, c4, rfl, hon, hx⟩; obtain ⟨hE4, ⟨⟨k0, k1, k2⟩, g0⟩, ⟨⟨r0, r1, r2⟩, g1⟩⟩ := keepO HO.out (HX3.out.trans hx); rw [hn] at k0; have HE4 := Lib.hid hE4; have HON4 := Lib.hid hon; have HX4 := Lib.hid (HX3.out.trans hx); clear hE4 hon hx)
          | (go_at_call 71; refine (normal_at _ A4 (x + 1) c4 _ _ d' HD'.out (HT.out.ext HE4.out) HON4.out.rd HON4.out.ok (by omega) (by omega) (by omega)).mono ?_; rintro e w5 ⟨A5, c5, rfl, hon, hx⟩; obtain ⟨hE5, ⟨⟨k0, k1, k2⟩, g0⟩, ⟨⟨r0, r1, r2⟩, g1⟩⟩ := keepO HO.out (HX4.out.trans hx); have HE5 := Lib.hid hE5; have HON5 := Lib.hid hon; clear hE5 hon hx))
        have hlt := (keepO HO.out HX4.out).2.2.lt
        exact bodyPost_ret (v := .tuple #[dv d'.neg A5 (len d'.m) c5 d'.den, .nilIface]) (by simp [results, Tryd.results16, go_sem, r0, r1, r2]) rfl (DyOk.end3 rfl HON5.out HE5.out (by omega) (by omega) hlt)

end Go.Proofs.YtgmmcfnahfcadaaDoor
