/- Floor and Ceil: their errors; Ceil; the reference's Floor. -/
import Derived.Test.YtkocmdpfknoiaaaDoorDyy
import Derived.Test.YtkocmdpfknoiaaaDoorRefmo
import Derived.Test.YtkocmdpfknoiaaaDoorRefhj
import Derived.Test.YtkocmdpfknoiaaaDoorMrf
namespace Go.Proofs.YtkocmdpfknoiaaaDoor
open Go.RowKit

/-- A zero, and an error. -/
def ZErr (k : Int) (w : World) (e : Ending) (w' : World) : Prop := ∃ A c, e = .returned (.tuple #[dv false A 0 c 0, .iface 34 (I k)]) ∧ Ext w w'

/-- One box more. -/
theorem bx_new2 {w w1 : World} {o : Obj} {v0 v1 v2 : Value} {t : TypeId} (hx : Ext ((w.alloc o).alloc (.cells #[v0, v1, v2] t)) w1) : Bx w1 (w.heap.size + 1) v0 v1 v2 := by
  have s2 := Bx.new (w.alloc o) v0 v1 v2 t
  rw [show (w.alloc o).heap.size = w.heap.size + 1 by simp] at s2
  exact s2.ext hx

/-- What the reference's functions with a number of an error return. -/
def DyNum (d : DV) (w : World) (e : Ending) (w' : World) : Prop := ∃ A c, e = .returned (.tuple #[dv d.neg A (len d.m) c d.den, I 0]) ∧ On w' w.heap.size A (len d.m) c (dg d.m) ∧ Ext w w'
theorem DyNum.end3 {d : DV} {w W w2 : World} {A : Option Addr} {c g : Nat} {e : Ending} {u0 u1 u2 : Value} (he : e = .returned (.tuple #[dv d.neg A (len d.m) c d.den, I 0])) (hon : On w2 W.heap.size A (len d.m) c (dg d.m)) (hx : Ext w w2) (hW : w.heap.size ≤ W.heap.size) (hg : w.heap.size ≤ g) (hg2 : g < W.heap.size) :
    DyNum d w e (((w2.setCell ⟨g, 0, none⟩ u0).setCell ⟨g, 1, none⟩ u1).setCell ⟨g, 2, none⟩ u2) :=
  ⟨A, c, he, (hon.set3 hg2 _ _ _).mono hW, ext_set3 hx hg _ _ _⟩
theorem mkD_self {d : DV} (h : d.ok) : mkD d.neg d.m d.den = d := DV.uniq (mkD_ok _ _ _) h (by rw [q_mkD _ _ h.2.1]; rfl)
theorem plus_one (A : Option Addr) (m ca g cb : Nat) (w : World) (ha : Rd w A (len m) (dg m)) (hg : g < w.heap.size) (hc : w.cell? ⟨g, 0, none⟩ = some (U4 1)) (hL : len m ≤ 1073741824) :
    Calls Tryd.prog 33 #[.slice A (len m) ca, .slice (some ⟨g, 0, none⟩) 1 cb] w (NatRes (m + 1) w) := by
  have h := rplus_any A (some ⟨g, 0, none⟩) m 1 ca cb w ha (by
    rw [len_one]
    intro _
    refine ⟨g, 0, rfl, hg, fun i hi => ?_⟩
    obtain rfl : i = 0 := by omega
    rw [show dg 1 0 = 1 by rw [dg_zero]]
    exact hc) hL (by rw [len_one]; decide)
  rw [len_one] at h
  exact h
theorem cut_odd {m j : Nat} (h : m % 2 = 1) (hj : 0 < j) : decide (m % 2 ^ j ≠ 0) = true := by
  refine decide_eq_true fun e => ?_
  have : 2 ∣ 2 ^ j := ⟨2 ^ (j - 1), by rw [← Nat.pow_succ']; congr 1; omega⟩
  have h2 := Nat.mod_mod_of_dvd m this
  rw [e] at h2
  omega

set_option maxRecDepth 100000 in
set_option maxHeartbeats 2000000 in
theorem rfloor_any {w : World} {neg : Bool} {A A' : Option Addr} {n c c' : Nat} {den : Int} {d : DV} (k : Nat) (h : Dy w neg A n c den d A' c') (hk : k ≤ 65536) : Calls Tryd.prog 17 #[dv neg A n c den, I k] w (DyNum (floorD d k) w) := by
  have H := Lib.hid h; clear h
  have hd1 := H.out.wf.2.1
  have hl1 := H.out.lim
  by_cases hdk : d.den ≤ k
  · rw [floor_small hdk]
    have HS := Lib.hid (mkD_self H.out.wf)
    go_enter Tryd.func17, Tryd.ntmps17
    go_wp2_with (go_at_call 30; refine (H.out.norm _ ((Ext.alloc _ _).trans (Ext.alloc _ _))).mono ?_; rintro e w1 ⟨rfl, hx⟩; obtain ⟨⟨k0, k1, k2⟩, s1, hz, hx1⟩ := two_boxes hx; have S1 := Lib.hid s1; have HX := Lib.hid hx1; obtain ⟨hc, hf⟩ := hx.old; clear hx hx1 s1)
    have HW := Lib.hid (ext_set3 HX.out (Nat.le_refl _))
    (with_reducible refine (rnumber_at d.neg A' c' d.den d.m _ (H.out.rd.ext (HW.out _ _ _)) H.out.sl (by omega) (by omega)).mono ?_)
    rw [HS.out]
    rintro e w2 ⟨A2, c2, rfl, hon, hx⟩
    obtain ⟨r0, r1, r2⟩ := (S1.out.far3 (by omega) _ _ _).ext hx
    obtain ⟨hc2, hf2⟩ := hx.old
    have HX2 := Lib.hid ((HW.out _ _ _).trans hx)
    have HO := Lib.hid hon
    clear hon hx
    go_wp2_with fail
    exact bodyPost_ret (v := .tuple #[dv d.neg A2 (len d.m) c2 d.den, I 0]) (by simp [results, Tryd.results17, go_sem, r0, r1, r2]) rfl (DyNum.end3 rfl HO.out HX2.out (by simp; omega) (by omega) (by simp; omega))
  · have hdk' : k < d.den := by omega
    obtain ⟨j, hj⟩ : ∃ j, d.den - k = j := ⟨_, rfl⟩
    have ej : (d.den : Int) - (k : Int) = (j : Int) := by omega
    have hjl : j ≤ 65536 := by omega
    have hcut := cut_odd (H.out.wf.2.2 (by omega)) (show 0 < j by omega)
    rw [floor_big hdk', hj]
    clear hj
    have hl2 : len (d.m / 2 ^ j) ≤ 16777216 := Nat.le_trans (len_mono (Nat.div_le_self _ _)) hl1
    have hl3 := len_succ (d.m / 2 ^ j)
    have HCUT := Lib.hid hcut
    obtain ⟨x, hx⟩ : ∃ x, d.m / 2 ^ j = x := ⟨_, rfl⟩
    rw [hx] at hl2 hl3
    rw [hx]
    have HX := Lib.hid hx
    clear hx hcut
    cases hn : d.neg with
    | false =>
      have HD' : Hid (mkD false x k = mkD false (x + if false = true then 1 else 0) k) := by
        show _ = _; rfl
      generalize mkD false (x + if false = true then 1 else 0) k = d' at *
      clear hl3
      go_enter Tryd.func17, Tryd.ntmps17
      go_upto_region 3 with fail
      go_cut [] (fun wx => One w d A' c' wx)
      case first =>
        go_wp2_with (go_at_call 30; refine (H.out.norm _ ((Ext.alloc _ _).trans (Ext.alloc _ _))).mono ?_; rintro e w1 ⟨rfl, hx⟩; obtain ⟨hc, hf⟩ := hx.old; have HO := Lib.hid (one_of (a := d) (A := A') (ca := c') hx); clear hx)
        go_meet
        have := HO.out
        rw [hn] at this
        exact this
      case rest =>
        have HO := Lib.hid hcut
        obtain ⟨hE, ⟨⟨k0, k1, k2⟩, g0⟩, ⟨⟨r0, r1, r2⟩, g1⟩⟩ := hcut
        rw [hn] at k0
        have HE := Lib.hid hE
        clear hE
        go_wp2_with (first
          | (go_at_call 32; (with_reducible refine (rright_any A' d.m j c' _ (H.out.rd.ext HE.out) (by omega) (by omega)).mono ?_); rintro e w2 ⟨A2, c2, rfl, hon, hx⟩; rw [HX.out] at hon; rw [HX.out]; obtain ⟨hE2, ⟨⟨k0, k1, k2⟩, g0⟩, ⟨⟨r0, r1, r2⟩, g1⟩⟩ := keepO HO.out hx; rw [hn] at k0; have HE2 := Lib.hid hE2; have HON := Lib.hid hon; have HX2 := Lib.hid hx; clear hE2 hon hx)
          | (go_at_call 31; (with_reducible refine (rnumber_at false A2 c2 k x _ HON.out.rd HON.out.ok (by omega) (by omega)).mono ?_); rw [HD'.out]; rintro e w3 ⟨A3, c3, rfl, hon, hx⟩; obtain ⟨hE3, ⟨⟨k0, k1, k2⟩, g0⟩, ⟨⟨r0, r1, r2⟩, g1⟩⟩ := keepO HO.out (HX2.out.trans hx); have HE3 := Lib.hid hE3; have HON3 := Lib.hid hon; clear hE3 hon; have hsz := HX2.out.size; clear hx))
        have hlt := (keepO HO.out HX2.out).2.2.lt
        exact bodyPost_ret (v := .tuple #[dv d'.neg A3 (len d'.m) c3 d'.den, I 0]) (by simp [results, Tryd.results17, go_sem, r0, r1, r2]) rfl (DyNum.end3 rfl HON3.out HE3.out (by omega) (by omega) hlt)
    | true =>
      have HD' : Hid (mkD true (x + 1) k = mkD true (x + if true = true then 1 else 0) k) := by
        show _ = _; rfl
      generalize mkD true (x + if true = true then 1 else 0) k = d' at *
      go_enter Tryd.func17, Tryd.ntmps17
      go_upto_region 3 with fail
      go_cut [] (fun wx => One w d A' c' wx)
      case first =>
        go_wp2_with (go_at_call 30; refine (H.out.norm _ ((Ext.alloc _ _).trans (Ext.alloc _ _))).mono ?_; rintro e w1 ⟨rfl, hx⟩; obtain ⟨hc, hf⟩ := hx.old; have HO := Lib.hid (one_of (a := d) (A := A') (ca := c') hx); clear hx)
        go_meet
        have := HO.out
        rw [hn] at this
        exact this
      case rest =>
        have HO := Lib.hid hcut
        obtain ⟨hE, ⟨⟨k0, k1, k2⟩, g0⟩, ⟨⟨r0, r1, r2⟩, g1⟩⟩ := hcut
        rw [hn] at k0
        have HE := Lib.hid hE
        clear hE
        go_wp2_with (first
          | (go_at_call 32; (with_reducible refine (rright_any A' d.m j c' _ (H.out.rd.ext HE.out) (by omega) (by omega)).mono ?_); rintro e w2 ⟨A2, c2, rfl, hon, hx⟩; rw [HX.out] at hon; rw [HX.out, HCUT.out]; obtain ⟨hE2, ⟨⟨k0, k1, k2⟩, g0⟩, ⟨⟨r0, r1, r2⟩, g1⟩⟩ := keepO HO.out hx; rw [hn] at k0; have HE2 := Lib.hid hE2; have HON := Lib.hid hon; have HX2 := Lib.hid hx; clear hE2 hon hx)
          | (go_at_call 33; refine (plus_one A2 x c2 w2.heap.size 1 _ (HON.out.rd.ext (Ext.alloc _ _)) (by simp) (by go_simp) (by omega)).mono ?_; rintro e w4 ⟨A4, c4, rfl, hon, hx⟩; obtain ⟨hE4, ⟨⟨k0, k1, k2⟩, g0⟩, ⟨⟨r0, r1, r2⟩, g1⟩⟩ := keepO HO.out ((HX2.out.trans (Ext.alloc _ _)).trans hx); rw [hn] at k0; have HE4 := Lib.hid hE4; have HON4 := Lib.hid hon; have HX4 := Lib.hid ((HX2.out.trans (Ext.alloc _ _)).trans hx); clear hE4 hon hx)
          | (go_at_call 31; (with_reducible refine (rnumber_at true A4 c4 k (x + 1) _ HON4.out.rd HON4.out.ok (by omega) (by omega)).mono ?_); rw [HD'.out]; rintro e w5 ⟨A5, c5, rfl, hon, hx⟩; obtain ⟨hE5, ⟨⟨k0, k1, k2⟩, g0⟩, ⟨⟨r0, r1, r2⟩, g1⟩⟩ := keepO HO.out (HX4.out.trans hx); have HE5 := Lib.hid hE5; have HON5 := Lib.hid hon; clear hE5 hon hx))
        have hlt := (keepO HO.out HX4.out).2.2.lt
        exact bodyPost_ret (v := .tuple #[dv d'.neg A5 (len d'.m) c5 d'.den, I 0]) (by simp [results, Tryd.results17, go_sem, r0, r1, r2]) rfl (DyNum.end3 rfl HON5.out HE5.out (by omega) (by omega) hlt)

end Go.Proofs.YtkocmdpfknoiaaaDoor
