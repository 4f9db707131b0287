/- Parse at the text of a number. -/
import Derived.Test.YtlnphamgmicniaaGreatDoorPre
import Derived.Test.YtlnphamgmicniaaGreatDoorDyn
import Derived.Test.YtlnphamgmicniaaGreatDoorExt
namespace Go.Proofs.YtlnphamgmicniaaGreatDoor
open Go.RowKit

theorem cutp_any (d : DV) (w : World) : Calls Tryz.prog 64 #[.string (bs (textL d)), .string ⟨#[45]⟩] w (fun e w' => e = .returned (.tuple #[.string (bs (bodyL d)), .bool d.neg]) ∧ w' = w) := by
  refine (Tryz.strings_CutPrefix (bs (textL d)) ⟨#[45]⟩ w).mono ?_
  rintro e w' ⟨rfl, rfl⟩
  refine ⟨?_, rfl⟩
  have h := text_prefix d
  show Ending.returned (.tuple #[.string ⟨(Lib.trimPrefix (textL d) [45]).toArray⟩, .bool (Lib.hasPrefix (textL d) [45])]) = _
  rw [h.1, h.2]; rfl
def powL (d : DV) : List UInt8 := if d.den = 0 then [] else Lib.decDigits d.den
theorem cut_any (d : DV) (w : World) (hE : Errs w) (hl : (bodyL d).length ≤ 65536) : Calls Tryz.prog 65 #[.string (bs (bodyL d)), .string ⟨#[47, 50, 94]⟩] w (fun e w' => e = .returned (.tuple #[.string (bs (Lib.decDigits d.m)), .string (bs (powL d)), .bool (decide (d.den ≠ 0))]) ∧ ∃ n, w' = w.drewN n) := by
  obtain ⟨_, _, m, hm⟩ := hE
  refine (Tryz.strings_Cut (bs (bodyL d)) ⟨#[47, 50, 94]⟩ m w (by rw [bs_size]; omega) hm).mono ?_
  rintro e w' ⟨rfl, hw⟩
  refine ⟨?_, hw⟩
  have h := body_cut d
  show Ending.returned (.tuple #[.string ⟨(Lib.cut (bodyL d) [47, 50, 94]).1.toArray⟩, .string ⟨(Lib.cut (bodyL d) [47, 50, 94]).2.1.toArray⟩, .bool (Lib.cut (bodyL d) [47, 50, 94]).2.2]) = _
  rw [h]; rfl
theorem pow_any (d : DV) (w : World) (hE : Errs w) (hd : d.ok) (hl : (powL d).length ≤ 65536) : Calls Tryz.prog 66 #[.string (bs (powL d)), .bool (decide (d.den ≠ 0))] w (fun e w' => e = .returned (.tuple #[I d.den, .bool true]) ∧ Ext w w') := by
  refine (pden_any _ _ w hE (by omega)).mono ?_
  rintro e w' ⟨hx, v, b, rfl, h0, h1⟩
  refine ⟨?_, hx⟩
  by_cases h : d.den = 0
  · obtain ⟨rfl, rfl⟩ := h0 (by simp [h])
    rw [h]; rfl
  · have hp : powL d = Lib.decDigits d.den := by unfold powL; rw [if_neg h]
    obtain ⟨h2, h3⟩ := h1 (by simp [h])
    rw [hp, dec_val] at h2 h3
    have := hd.2.1
    have hb : b = true := h2.2 ⟨dec_decB _, by omega, by omega⟩
    rw [h3 hb, hb]

set_option maxRecDepth 100000 in
set_option maxHeartbeats 4000000 in
theorem parse_txt {d : DV} (w : World) (hE : Errs w) (hd : d.ok) (hl : (textL d).length ≤ 65536) (hm : len d.m ≤ 1073741824) :
    Calls Tryz.prog 8 #[.string (txtS d)] w (fun e w' => ∃ A c, e = .returned (.tuple #[dv d.neg A (len d.m) c d.den, .nilIface]) ∧ On w' w.heap.size A (len d.m) c (dg d.m) ∧ Ext w w') := by
  have hlb : (bodyL d).length ≤ 65536 := by unfold textL at hl; rw [List.length_append] at hl; omega
  have hlm : (Lib.decDigits d.m).length ≤ 65536 := by unfold bodyL at hlb; rw [List.length_append] at hlb; omega
  have hlp : (powL d).length ≤ 65536 := by
    unfold bodyL at hlb; unfold powL
    by_cases h : d.den = 0
    · rw [if_pos h]; simp
    · rw [if_neg h] at hlb ⊢; rw [List.length_append, List.length_append] at hlb; omega
  have HC := Lib.hid (cutp_any d)
  have HK := Lib.hid (fun w' (e : Ext w w') => cut_any d w' (hE.ext e) hlb)
  have HP := Lib.hid (fun w' (e : Ext w w') => pow_any d w' (hE.ext e) hd hlp)
  have HI := Lib.hid (fun w' => isdec_any (Lib.decDigits d.m) w' (by omega))
  rw [dec_decB] at HI
  have HO := Lib.hid (fun w' => ofdec_any (Lib.decDigits d.m) w' (dec_digs _) (by omega))
  rw [dec_val] at HO
  have HV := Lib.hid (fun A c w' (h : Rd w' A (len d.m) (dg d.m)) => valid_any d.neg A (len d.m) c d.den (dg d.m) w' h (fun _ _ => dg_lt _ _) hm)
  rw [vld_ok hd] at HV
  rw [txt_bs]
  have hs1 : (bs (textL d)).size ≤ 65536 := by rw [bs_size]; exact hl
  obtain ⟨S1, e1⟩ : ∃ S, bs (textL d) = S := ⟨_, rfl⟩
  obtain ⟨S2, e2⟩ : ∃ S, bs (bodyL d) = S := ⟨_, rfl⟩
  obtain ⟨S3, e3⟩ : ∃ S, bs (Lib.decDigits d.m) = S := ⟨_, rfl⟩
  obtain ⟨S4, e4⟩ : ∃ S, bs (powL d) = S := ⟨_, rfl⟩
  obtain ⟨fr, e5⟩ : ∃ S, decide (d.den ≠ 0) = S := ⟨_, rfl⟩
  rw [e1] at HC hs1 ⊢
  rw [e2] at HC HK
  rw [e3] at HK HI HO
  rw [e4] at HK HP
  rw [e5] at HK HP
  clear hE hd hl hlb hlm hlp e1 e2 e3 e4 e5
  have hs2 : (S1.size : Int) ≤ 65536 := by omega
  have B1 := Lib.hid (Bx.new w (.bool false) (.slice none 0 0) (I 0) 25)
  go_enter Tryz.func8, Tryz.ntmps8
  go_wp2_with (first
    | (go_at_call 64; (with_reducible refine (HC.out _).mono ?_); rintro e w1 ⟨rfl, rfl⟩)
    | (go_at_call 65; (with_reducible refine (HK.out _ (Ext.alloc _ _)).mono ?_); rintro e w2 ⟨rfl, n2, rfl⟩)
    | (go_at_call 66; (with_reducible refine (HP.out _ ((Ext.alloc _ _).trans (Ext.drewN _ _))).mono ?_); rintro e w3 ⟨rfl, hx⟩; have B3 := Lib.hid (B1.out.ext ((Ext.drewN _ _).trans hx)); have X3 := Lib.hid (((Ext.alloc _ _).trans (Ext.drewN _ _)).trans hx); clear hx)
    | (go_at_call 67; (with_reducible refine (HI.out _).mono ?_); rintro e w4 ⟨rfl, rfl⟩)
    | (go_at_call 68; (with_reducible refine (HO.out _).mono ?_); rintro e w5 ⟨A, c, rfl, hO, hx⟩; have HN := Lib.hid hO; have B5 := Lib.hid (B3.out.ext hx); have X5 := Lib.hid hx; clear hx hO)
    | (go_at_call 69; (with_reducible refine (HV.out A c _ (HN.out.rd.ext (Ext.alloc _ _))).mono ?_); rintro e w6 ⟨rfl, hx⟩; obtain ⟨⟨r0, r1, r2⟩, rz⟩ := (B5.out.ext (Ext.alloc _ _)).ext hx; obtain ⟨⟨q0, q1, q2⟩, qz⟩ := (Bx.new w5 (.bool d.neg) (.slice A (len d.m) c) (I d.den) 25).ext hx; have X6 := Lib.hid ((Ext.alloc w5 _).trans hx); clear hx))
  have hlt : w.heap.size < w4.heap.size := B3.out.lt
  refine bodyPost_ret (v := .tuple #[dv d.neg A (len d.m) c d.den, .nilIface]) (by simp [results, Tryz.results8, go_sem, r0, r1, r2]) rfl ⟨A, c, rfl, ?_, ext_set3 (X3.out.trans (X5.out.trans X6.out)) (Nat.le_refl _) _ _ _⟩
  exact ((((HN.out.ext X6.out).set hlt _ _).set hlt _ _).set hlt _ _).mono (Nat.le_of_lt hlt)
end Go.Proofs.YtlnphamgmicniaaGreatDoor
