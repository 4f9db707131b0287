/- Parse at any text. -/
import Derived.Test.YtlnphamgmicniaaGreatDoorPrf
namespace Go.Proofs.YtlnphamgmicniaaGreatDoor
open Go.RowKit

/-- A text taken apart: its sign, its digits, what stands behind "/2^", whether there is such. -/
structure TX where
  neg : Bool
  body : List UInt8
  pow : List UInt8
  fr : Bool
def txOf (l : List UInt8) : TX := ⟨Lib.hasPrefix l [45], (Lib.cut (Lib.trimPrefix l [45]) [47, 50, 94]).1, (Lib.cut (Lib.trimPrefix l [45]) [47, 50, 94]).2.1, (Lib.cut (Lib.trimPrefix l [45]) [47, 50, 94]).2.2⟩
def TX.den (t : TX) : Nat := if t.fr = true then valD t.pow else 0
/-- The power is none or one that can be read. -/
def TX.powOk (t : TX) : Prop := t.fr = true → decB t.pow = true ∧ 0 < valD t.pow ∧ valD t.pow < 9223372036854775808
theorem pow_yes (t : TX) (w : World) (hE : Errs w) (hl : t.pow.length ≤ 65536) (h : t.powOk) : Calls Tryz.prog 66 #[.string (bs t.pow), .bool t.fr] w (fun e w' => e = .returned (.tuple #[I t.den, .bool true]) ∧ Ext w w') := by
  refine (pden_any _ _ w hE (by omega)).mono ?_
  rintro e w' ⟨hx, v, b, rfl, h0, h1⟩
  refine ⟨?_, hx⟩
  unfold TX.den
  cases hf : t.fr with
  | false =>
    obtain ⟨rfl, rfl⟩ := h0 hf
    rfl
  | true =>
    obtain ⟨h2, h3⟩ := h1 hf
    have hb : b = true := h2.2 (h hf)
    rw [h3 hb, hb]; rfl
theorem pow_no (t : TX) (w : World) (hE : Errs w) (hl : t.pow.length ≤ 65536) (h : ¬ t.powOk) : Calls Tryz.prog 66 #[.string (bs t.pow), .bool t.fr] w (fun e w' => (∃ v, e = .returned (.tuple #[I v, .bool false])) ∧ Ext w w') := by
  refine (pden_any _ _ w hE (by omega)).mono ?_
  rintro e w' ⟨hx, v, b, rfl, h0, h1⟩
  refine ⟨⟨v, ?_⟩, hx⟩
  cases hf : t.fr with
  | false => exact absurd (fun h' => by rw [hf] at h'; cases h') h
  | true =>
    obtain ⟨h2, h3⟩ := h1 hf
    cases b with
    | false => rfl
    | true => exact absurd (fun _ => h2.1 rfl) h
theorem cutp_gen (l : List UInt8) (w : World) : Calls Tryz.prog 64 #[.string (bs l), .string ⟨#[45]⟩] w (fun e w' => e = .returned (.tuple #[.string (bs (Lib.trimPrefix l [45])), .bool (txOf l).neg]) ∧ w' = w) :=
  Tryz.strings_CutPrefix (bs l) ⟨#[45]⟩ w
theorem trim_len (l : List UInt8) : (Lib.trimPrefix l [45]).length ≤ l.length := by
  unfold Lib.trimPrefix; split
  · rw [List.length_drop]; omega
  · exact Nat.le_refl _
theorem cut_len (l : List UInt8) : (txOf l).body.length ≤ l.length ∧ (txOf l).pow.length ≤ l.length := by
  have h := trim_len l
  show (Lib.cut (Lib.trimPrefix l [45]) [47, 50, 94]).1.length ≤ _ ∧ (Lib.cut (Lib.trimPrefix l [45]) [47, 50, 94]).2.1.length ≤ _
  unfold Lib.cut; split
  · exact ⟨by simp only [List.length_take]; omega, by simp only [List.length_drop]; omega⟩
  · exact ⟨h, by simp⟩
theorem cut_gen (l : List UInt8) (w : World) (hE : Errs w) (hl : l.length ≤ 65536) : Calls Tryz.prog 65 #[.string (bs (Lib.trimPrefix l [45])), .string ⟨#[47, 50, 94]⟩] w (fun e w' => e = .returned (.tuple #[.string (bs (txOf l).body), .string (bs (txOf l).pow), .bool (txOf l).fr]) ∧ ∃ n, w' = w.drewN n) := by
  obtain ⟨_, _, m, hm⟩ := hE
  have := trim_len l
  exact Tryz.strings_Cut (bs (Lib.trimPrefix l [45])) ⟨#[47, 50, 94]⟩ m w (by rw [bs_size]; omega) hm

/-- What Parse answers. -/
def ParseRes (ok : Bool) (neg : Bool) (m : Nat) (den : Nat) (w : World) (e : Ending) (w' : World) : Prop :=
  Ext w w' ∧ ((ok = true ∧ ∃ A c, e = .returned (.tuple #[dv neg A (len m) c den, .nilIface]) ∧ On w' w.heap.size A (len m) c (dg m)) ∨ (ok = false ∧ e = .returned (.tuple #[dv false none 0 0 0, .iface 69 (I 2)])))

set_option maxRecDepth 100000 in
set_option maxHeartbeats 4000000 in
theorem parse_nopow (l : List UInt8) (w : World) (hE : Errs w) (hl : l.length ≤ 65536) (h : ¬ (txOf l).powOk) : Calls Tryz.prog 8 #[.string (bs l)] w (ParseRes false (txOf l).neg (valD (txOf l).body) (txOf l).den w) := by
  have htl := cut_len l
  have HC := Lib.hid (cutp_gen l)
  have HK := Lib.hid (fun w' (e : Ext w w') => cut_gen l w' (hE.ext e) hl)
  have hs1 : (bs l).size ≤ 65536 := by rw [bs_size]; exact hl
  obtain ⟨S1, e1⟩ : ∃ S, bs l = S := ⟨_, rfl⟩
  obtain ⟨S2, e2⟩ : ∃ S, bs (Lib.trimPrefix l [45]) = S := ⟨_, rfl⟩
  rw [e1] at HC hs1 ⊢
  rw [e2] at HC HK
  clear e1 e2
  generalize txOf l = t at *
  obtain ⟨hlm, hlp⟩ := htl
  have HP := Lib.hid (fun w' (e : Ext w w') => pow_no t w' (hE.ext e) (by omega) h)
  obtain ⟨S3, e3⟩ : ∃ S, bs t.body = S := ⟨_, rfl⟩
  obtain ⟨S4, e4⟩ : ∃ S, bs t.pow = S := ⟨_, rfl⟩
  rw [e3] at HK
  rw [e4] at HK HP
  clear hE hl hlm hlp e3 e4 h
  have hs2 : (S1.size : Int) ≤ 65536 := by omega
  have B1 := Lib.hid (Bx.new w (.bool false) (.slice none 0 0) (I 0) 25)
  go_enter Tryz.func8, Tryz.ntmps8
  go_wp2_with (first
    | (go_at_call 64; (with_reducible refine (HC.out _).mono ?_); rintro e w1 ⟨rfl, rfl⟩)
    | (go_at_call 65; (with_reducible refine (HK.out _ (Ext.alloc _ _)).mono ?_); rintro e w2 ⟨rfl, n2, rfl⟩)
    | (go_at_call 66; (with_reducible refine (HP.out _ ((Ext.alloc _ _).trans (Ext.drewN _ _))).mono ?_); rintro e w3 ⟨⟨v, rfl⟩, hx⟩; have B3 := Lib.hid (B1.out.ext ((Ext.drewN _ _).trans hx)); have X3 := Lib.hid (((Ext.alloc _ _).trans (Ext.drewN _ _)).trans hx); obtain ⟨⟨r0, r1, r2⟩, rz⟩ := B3.out; clear hx))
  refine bodyPost_ret (v := .tuple #[dv false none 0 0 0, .iface 69 (I 2)]) (by simp [results, Tryz.results8, go_sem, r0, r1, r2]) rfl ⟨ext_set3 X3.out (Nat.le_refl _) _ _ _, .inr ⟨rfl, rfl⟩⟩

set_option maxRecDepth 100000 in
set_option maxHeartbeats 4000000 in
theorem parse_nobody (l : List UInt8) (w : World) (hE : Errs w) (hl : l.length ≤ 65536) (h : (txOf l).powOk) (hb : decB (txOf l).body = false) : Calls Tryz.prog 8 #[.string (bs l)] w (ParseRes false (txOf l).neg (valD (txOf l).body) (txOf l).den w) := by
  have htl := cut_len l
  have HC := Lib.hid (cutp_gen l)
  have HK := Lib.hid (fun w' (e : Ext w w') => cut_gen l w' (hE.ext e) hl)
  have hs1 : (bs l).size ≤ 65536 := by rw [bs_size]; exact hl
  obtain ⟨S1, e1⟩ : ∃ S, bs l = S := ⟨_, rfl⟩
  obtain ⟨S2, e2⟩ : ∃ S, bs (Lib.trimPrefix l [45]) = S := ⟨_, rfl⟩
  rw [e1] at HC hs1 ⊢
  rw [e2] at HC HK
  clear e1 e2
  generalize txOf l = t at *
  obtain ⟨hlm, hlp⟩ := htl
  have HP := Lib.hid (fun w' (e : Ext w w') => pow_yes t w' (hE.ext e) (by omega) h)
  have HI := Lib.hid (fun w' => isdec_any t.body w' (by omega))
  rw [hb] at HI
  obtain ⟨S3, e3⟩ : ∃ S, bs t.body = S := ⟨_, rfl⟩
  obtain ⟨S4, e4⟩ : ∃ S, bs t.pow = S := ⟨_, rfl⟩
  rw [e3] at HK HI
  rw [e4] at HK HP
  clear hE hl hlm hlp e3 e4 h hb
  have hs2 : (S1.size : Int) ≤ 65536 := by omega
  have B1 := Lib.hid (Bx.new w (.bool false) (.slice none 0 0) (I 0) 25)
  go_enter Tryz.func8, Tryz.ntmps8
  go_wp2_with (first
    | (go_at_call 64; (with_reducible refine (HC.out _).mono ?_); rintro e w1 ⟨rfl, rfl⟩)
    | (go_at_call 65; (with_reducible refine (HK.out _ (Ext.alloc _ _)).mono ?_); rintro e w2 ⟨rfl, n2, rfl⟩)
    | (go_at_call 66; (with_reducible refine (HP.out _ ((Ext.alloc _ _).trans (Ext.drewN _ _))).mono ?_); rintro e w3 ⟨rfl, hx⟩; have B3 := Lib.hid (B1.out.ext ((Ext.drewN _ _).trans hx)); have X3 := Lib.hid (((Ext.alloc _ _).trans (Ext.drewN _ _)).trans hx); obtain ⟨⟨r0, r1, r2⟩, rz⟩ := B3.out; clear hx)
    | (go_at_call 67; (with_reducible refine (HI.out _).mono ?_); rintro e w4 ⟨rfl, rfl⟩))
  refine bodyPost_ret (v := .tuple #[dv false none 0 0 0, .iface 69 (I 2)]) (by simp [results, Tryz.results8, go_sem, r0, r1, r2]) rfl ⟨ext_set3 X3.out (Nat.le_refl _) _ _ _, .inr ⟨rfl, rfl⟩⟩

set_option maxRecDepth 100000 in
set_option maxHeartbeats 4000000 in
theorem parse_invalid (l : List UInt8) (w : World) (hE : Errs w) (hl : l.length ≤ 65536) (h : (txOf l).powOk) (hb : decB (txOf l).body = true) (hm : len (valD (txOf l).body) ≤ 1073741824) (hv : vld (txOf l).neg (len (valD (txOf l).body)) (dg (valD (txOf l).body)) (txOf l).den = false) : Calls Tryz.prog 8 #[.string (bs l)] w (ParseRes false (txOf l).neg (valD (txOf l).body) (txOf l).den w) := by
  have htl := cut_len l
  have HC := Lib.hid (cutp_gen l)
  have HK := Lib.hid (fun w' (e : Ext w w') => cut_gen l w' (hE.ext e) hl)
  have hs1 : (bs l).size ≤ 65536 := by rw [bs_size]; exact hl
  obtain ⟨S1, e1⟩ : ∃ S, bs l = S := ⟨_, rfl⟩
  obtain ⟨S2, e2⟩ : ∃ S, bs (Lib.trimPrefix l [45]) = S := ⟨_, rfl⟩
  rw [e1] at HC hs1 ⊢
  rw [e2] at HC HK
  clear e1 e2
  generalize txOf l = t at *
  obtain ⟨hlm, hlp⟩ := htl
  have HP := Lib.hid (fun w' (e : Ext w w') => pow_yes t w' (hE.ext e) (by omega) h)
  have HI := Lib.hid (fun w' => isdec_any t.body w' (by omega))
  have HO := Lib.hid (fun w' => ofdec_any t.body w' (decB_digs hb) (by omega))
  rw [hb] at HI
  have HV := Lib.hid (fun A c w' (h : Rd w' A (len (valD t.body)) (dg (valD t.body))) => valid_any t.neg A (len (valD t.body)) c t.den (dg (valD t.body)) w' h (fun _ _ => dg_lt _ _) hm)
  rw [hv] at HV
  obtain ⟨S3, e3⟩ : ∃ S, bs t.body = S := ⟨_, rfl⟩
  obtain ⟨S4, e4⟩ : ∃ S, bs t.pow = S := ⟨_, rfl⟩
  rw [e3] at HK HI HO
  rw [e4] at HK HP
  clear hE hl hlm hlp e3 e4 h hb hv
  have hs2 : (S1.size : Int) ≤ 65536 := by omega
  have B1 := Lib.hid (Bx.new w (.bool false) (.slice none 0 0) (I 0) 25)
  go_enter Tryz.func8, Tryz.ntmps8
  go_wp2_with (first
    | (go_at_call 64; (with_reducible refine (HC.out _).mono ?_); rintro e w1 ⟨rfl, rfl⟩)
    | (go_at_call 65; (with_reducible refine (HK.out _ (Ext.alloc _ _)).mono ?_); rintro e w2 ⟨rfl, n2, rfl⟩)
    | (go_at_call 66; (with_reducible refine (HP.out _ ((Ext.alloc _ _).trans (Ext.drewN _ _))).mono ?_); rintro e w3 ⟨rfl, hx⟩; have B3 := Lib.hid (B1.out.ext ((Ext.drewN _ _).trans hx)); have X3 := Lib.hid (((Ext.alloc _ _).trans (Ext.drewN _ _)).trans hx); obtain ⟨⟨r0, r1, r2⟩, rz⟩ := B3.out; clear hx)
    | (go_at_call 67; (with_reducible refine (HI.out _).mono ?_); rintro e w4 ⟨rfl, rfl⟩)
    | (go_at_call 68; (with_reducible refine (HO.out _).mono ?_); rintro e w5 ⟨A, c, rfl, hO, hx⟩; have HN := Lib.hid hO; have B5 := Lib.hid (B3.out.ext hx); have X5 := Lib.hid hx; clear hx hO r0 r1 r2 rz)
    | (go_at_call 69; (with_reducible refine (HV.out A c _ (HN.out.rd.ext (Ext.alloc _ _))).mono ?_); rintro e w6 ⟨rfl, hx⟩; obtain ⟨⟨r0, r1, r2⟩, rz⟩ := (B5.out.ext (Ext.alloc _ _)).ext hx; obtain ⟨⟨q0, q1, q2⟩, qz⟩ := (Bx.new w5 (.bool t.neg) (.slice A (len (valD t.body)) c) (I t.den) 25).ext hx; have X6 := Lib.hid ((Ext.alloc w5 _).trans hx); clear hx))
  have hlt : w.heap.size < w4.heap.size := B3.out.lt
  refine bodyPost_ret (v := .tuple #[dv false none 0 0 0, .iface 69 (I 2)]) (by simp [results, Tryz.results8, go_sem, r0, r1, r2]) rfl ⟨ext_set3 (X3.out.trans (X5.out.trans X6.out)) (Nat.le_refl _) _ _ _, .inr ⟨rfl, rfl⟩⟩

set_option maxRecDepth 100000 in
set_option maxHeartbeats 4000000 in
theorem parse_valid (l : List UInt8) (w : World) (hE : Errs w) (hl : l.length ≤ 65536) (h : (txOf l).powOk) (hb : decB (txOf l).body = true) (hm : len (valD (txOf l).body) ≤ 1073741824) (hv : vld (txOf l).neg (len (valD (txOf l).body)) (dg (valD (txOf l).body)) (txOf l).den = true) : Calls Tryz.prog 8 #[.string (bs l)] w (ParseRes true (txOf l).neg (valD (txOf l).body) (txOf l).den w) := by
  have htl := cut_len l
  have HC := Lib.hid (cutp_gen l)
  have HK := Lib.hid (fun w' (e : Ext w w') => cut_gen l w' (hE.ext e) hl)
  have hs1 : (bs l).size ≤ 65536 := by rw [bs_size]; exact hl
  obtain ⟨S1, e1⟩ : ∃ S, bs l = S := ⟨_, rfl⟩
  obtain ⟨S2, e2⟩ : ∃ S, bs (Lib.trimPrefix l [45]) = S := ⟨_, rfl⟩
  rw [e1] at HC hs1 ⊢
  rw [e2] at HC HK
  clear e1 e2
  generalize txOf l = t at *
  obtain ⟨hlm, hlp⟩ := htl
  have HP := Lib.hid (fun w' (e : Ext w w') => pow_yes t w' (hE.ext e) (by omega) h)
  have HI := Lib.hid (fun w' => isdec_any t.body w' (by omega))
  have HO := Lib.hid (fun w' => ofdec_any t.body w' (decB_digs hb) (by omega))
  rw [hb] at HI
  have HV := Lib.hid (fun A c w' (h : Rd w' A (len (valD t.body)) (dg (valD t.body))) => valid_any t.neg A (len (valD t.body)) c t.den (dg (valD t.body)) w' h (fun _ _ => dg_lt _ _) hm)
  rw [hv] at HV
  obtain ⟨S3, e3⟩ : ∃ S, bs t.body = S := ⟨_, rfl⟩
  obtain ⟨S4, e4⟩ : ∃ S, bs t.pow = S := ⟨_, rfl⟩
  rw [e3] at HK HI HO
  rw [e4] at HK HP
  clear hE hl hlm hlp e3 e4 h hb hv
  have hs2 : (S1.size : Int) ≤ 65536 := by omega
  have B1 := Lib.hid (Bx.new w (.bool false) (.slice none 0 0) (I 0) 25)
  go_enter Tryz.func8, Tryz.ntmps8
  go_wp2_with (first
    | (go_at_call 64; (with_reducible refine (HC.out _).mono ?_); rintro e w1 ⟨rfl, rfl⟩)
    | (go_at_call 65; (with_reducible refine (HK.out _ (Ext.alloc _ _)).mono ?_); rintro e w2 ⟨rfl, n2, rfl⟩)
    | (go_at_call 66; (with_reducible refine (HP.out _ ((Ext.alloc _ _).trans (Ext.drewN _ _))).mono ?_); rintro e w3 ⟨rfl, hx⟩; have B3 := Lib.hid (B1.out.ext ((Ext.drewN _ _).trans hx)); have X3 := Lib.hid (((Ext.alloc _ _).trans (Ext.drewN _ _)).trans hx); obtain ⟨⟨r0, r1, r2⟩, rz⟩ := B3.out; clear hx)
    | (go_at_call 67; (with_reducible refine (HI.out _).mono ?_); rintro e w4 ⟨rfl, rfl⟩)
    | (go_at_call 68; (with_reducible refine (HO.out _).mono ?_); rintro e w5 ⟨A, c, rfl, hO, hx⟩; have HN := Lib.hid hO; have B5 := Lib.hid (B3.out.ext hx); have X5 := Lib.hid hx; clear hx hO r0 r1 r2 rz)
    | (go_at_call 69; (with_reducible refine (HV.out A c _ (HN.out.rd.ext (Ext.alloc _ _))).mono ?_); rintro e w6 ⟨rfl, hx⟩; obtain ⟨⟨r0, r1, r2⟩, rz⟩ := (B5.out.ext (Ext.alloc _ _)).ext hx; obtain ⟨⟨q0, q1, q2⟩, qz⟩ := (Bx.new w5 (.bool t.neg) (.slice A (len (valD t.body)) c) (I t.den) 25).ext hx; have X6 := Lib.hid ((Ext.alloc w5 _).trans hx); clear hx))
  have hlt : w.heap.size < w4.heap.size := B3.out.lt
  refine bodyPost_ret (v := .tuple #[dv t.neg A (len (valD t.body)) c t.den, .nilIface]) (by simp [results, Tryz.results8, go_sem, r0, r1, r2]) rfl ⟨ext_set3 (X3.out.trans (X5.out.trans X6.out)) (Nat.le_refl _) _ _ _, .inl ⟨rfl, A, c, rfl, ?_⟩⟩
  exact ((((HN.out.ext X6.out).set hlt _ _).set hlt _ _).set hlt _ _).mono (Nat.le_of_lt hlt)
end Go.Proofs.YtlnphamgmicniaaGreatDoor
