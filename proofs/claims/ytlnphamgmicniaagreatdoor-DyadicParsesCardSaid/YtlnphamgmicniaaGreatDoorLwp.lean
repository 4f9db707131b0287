/- The law DyadicParses. -/
import Derived.Test.YtlnphamgmicniaaGreatDoorRpa
import Derived.Test.YtlnphamgmicniaaGreatDoorLawo
namespace Go.Proofs.YtlnphamgmicniaaGreatDoor
open Go.RowKit

set_option maxHeartbeats 400000 in
theorem numE2 (w : World) : Calls Tryz.prog 10 #[.iface 69 (I 2)] w fun e w' => e = .returned (I 2) ∧ Ext w w' := by
  have ta := run_assert_int (P := Tryz.prog) (xT := 27) (v := I 2) (w := w) Tryz.underlying69
  go_enter Tryz.func10, Tryz.ntmps10
  go_wp2
  go_ret
  exact ⟨rfl, Ext.refl _⟩
theorem numN (w : World) : Calls Tryz.prog 10 #[.nilIface] w fun e w' => e = .returned (I 0) ∧ Ext w w' := by
  go_enter Tryz.func10, Tryz.ntmps10
  go_wp2
  go_ret
  exact ⟨rfl, Ext.refl _⟩

/-- A text that is read. -/
def TX.good (t : TX) : Prop := t.powR ∧ decB t.body = true ∧ vld t.neg (len (valD t.body)) (dg (valD t.body)) t.den = true
theorem val_len {l : List UInt8} (h : decB l = true) : len (valD l) ≤ l.length := by
  have h1 := valD_lt l (decB_digs h)
  exact len_le (Nat.lt_of_lt_of_le h1 (Nat.pow_le_pow_left (by omega) _))
theorem good_of {t : TX} (h : t.powOk) (hb : decB t.body = true) (hv : vld t.neg (len (valD t.body)) (dg (valD t.body)) t.den = true) : t.good := by
  refine ⟨fun hf => ?_, hb, hv⟩
  obtain ⟨a, b, _⟩ := h hf
  have ok := (ok_of_vld (d := t.dv) hv).2.1
  have e : t.den = valD t.pow := by unfold TX.den; rw [if_pos hf]
  exact ⟨a, b, by rw [← e]; exact ok⟩
theorem powOk_of {t : TX} (h : t.powR) : t.powOk := fun hf => by obtain ⟨a, b, c⟩ := h hf; exact ⟨a, b, by omega⟩
theorem code_good (l : List UInt8) (w : World) (hE : Errs w) (hl : l.length ≤ 65536) (h : (txOf l).good) : Calls Tryz.prog 8 #[.string (bs l)] w (ParseRes true (txOf l).neg (valD (txOf l).body) (txOf l).den w) := by
  have hm := val_len h.2.1
  have hl2 := (cut_len l).1
  exact parse_valid l w hE hl (powOk_of h.1) h.2.1 (by omega) h.2.2
theorem code_bad (l : List UInt8) (w : World) (hE : Errs w) (hl : l.length ≤ 65536) (h : ¬ (txOf l).good) : Calls Tryz.prog 8 #[.string (bs l)] w (ParseRes false (txOf l).neg (valD (txOf l).body) (txOf l).den w) := by
  by_cases hp : (txOf l).powOk
  · cases hb : decB (txOf l).body with
    | false => exact parse_nobody l w hE hl hp hb
    | true =>
      have hm := val_len hb
      have hl2 := (cut_len l).1
      cases hv : vld (txOf l).neg (len (valD (txOf l).body)) (dg (valD (txOf l).body)) (txOf l).den with
      | false => exact parse_invalid l w hE hl hp hb (by omega) hv
      | true => exact absurd (good_of hp hb hv) h
  · exact parse_nopow l w hE hl hp
theorem ref_good (l : List UInt8) (w : World) (hl : l.length ≤ 65536) (h : (txOf l).good) : Calls Tryz.prog 9 #[.string (bs l)] w (RParseRes true (txOf l).neg (valD (txOf l).body) (txOf l).den w) := by
  have hm := val_len h.2.1
  have hl2 := (cut_len l).1
  cases hf : (txOf l).fr with
  | true => exact rparse_valid_p l w hl hf h.1 h.2.1 (by omega) h.2.2
  | false => exact rparse_valid_n l w hl hf h.2.1 (by omega) h.2.2
theorem ref_bad (l : List UInt8) (w : World) (hl : l.length ≤ 65536) (h : ¬ (txOf l).good) : Calls Tryz.prog 9 #[.string (bs l)] w (RParseRes false (txOf l).neg (valD (txOf l).body) (txOf l).den w) := by
  by_cases hp : (txOf l).powR
  · cases hb : decB (txOf l).body with
    | false =>
      cases hf : (txOf l).fr with
      | true => exact rparse_nobody_p l w hl hf hp hb
      | false => exact rparse_nobody_n l w hl hf hb
    | true =>
      have hm := val_len hb
      have hl2 := (cut_len l).1
      cases hv : vld (txOf l).neg (len (valD (txOf l).body)) (dg (valD (txOf l).body)) (txOf l).den with
      | false =>
        cases hf : (txOf l).fr with
        | true => exact rparse_invalid_p l w hl hf hp hb (by omega) hv
        | false => exact rparse_invalid_n l w hl hf hb (by omega) hv
      | true => exact absurd ⟨hp, hb, hv⟩ h
  · exact rparse_nopow l w hl hp

set_option maxRecDepth 100000 in
set_option maxHeartbeats 4000000 in
theorem parses_long (S : ByteArray) (w : World) (hT : Tabs w) (hl : 150 < S.size) : Calls Tryz.prog 3 #[.string S] w fun e w' => e = .returned (.bool true) ∧ Ext w w' := by
  have HT := Lib.hid hT; clear hT
  have hl2 : (150 : Int) < (S.size : Int) := by omega
  go_enter Tryz.func3, Tryz.ntmps3
  go_wp2_with (first | (go_at_call 7; (with_reducible refine (awake_any _ HT.out).mono ?_); rintro e w1 ⟨rfl, hx⟩; have HE := Lib.hid hx; clear hx))
  go_ret
  exact ⟨rfl, HE.out⟩

set_option maxRecDepth 100000 in
set_option maxHeartbeats 4000000 in
theorem parses_good (l : List UInt8) (w : World) (hT : Tabs w) (hP : TabP w) (hE : Errs w) (hl : l.length ≤ 150) (h : (txOf l).good) : Calls Tryz.prog 3 #[.string (bs l)] w fun e w' => e = .returned (.bool true) ∧ Ext w w' := by
  have HT := Lib.hid hT; clear hT
  have hm := val_len h.2.1
  have hl2 := (cut_len l).1
  have hs : ((bs l).size : Int) ≤ 150 := by rw [bs_size]; omega
  have HA : Hid (∀ w', Ext w w' → Calls Tryz.prog 8 #[.string (bs l)] w' fun e w'' => ∃ A c, e = .returned (.tuple #[dv (txOf l).neg A (len (valD (txOf l).body)) c (txOf l).den, .nilIface]) ∧ On w'' w'.heap.size A (len (valD (txOf l).body)) c (dg (valD (txOf l).body)) ∧ Ext w' w'') := fun w' x =>
    (code_good l w' (hE.ext x) (by omega) h).mono fun e w'' ⟨y, hr⟩ => by
      rcases hr with ⟨_, A, c, he, ho⟩ | ⟨hf, _⟩
      · exact ⟨A, c, he, ho, y⟩
      · cases hf
  have HB : Hid (∀ w', Calls Tryz.prog 9 #[.string (bs l)] w' fun e w'' => ∃ A c, e = .returned (.tuple #[dv (txOf l).neg A (len (valD (txOf l).body)) c (txOf l).den, I 0]) ∧ On w'' w'.heap.size A (len (valD (txOf l).body)) c (dg (valD (txOf l).body)) ∧ Ext w' w'') := fun w' =>
    (ref_good l w' (by omega) h).mono fun e w'' ⟨y, hr⟩ => by
      rcases hr with ⟨_, A, c, he, ho⟩ | ⟨hf, _⟩
      · exact ⟨A, c, he, ho, y⟩
      · cases hf
  have HX : Hid (∀ A c w' (g : Nat), On w' g A (len (valD (txOf l).body)) c (dg (valD (txOf l).body)) → Ext w w' → Calls Tryz.prog 12 #[dv (txOf l).neg A (len (valD (txOf l).body)) c (txOf l).den] w' fun e w'' => e = .returned (.string (bs l)) ∧ Ext w' w'') := by
    intro A c w' g ho x
    have h1 := text_any (Dy.valid (d := (txOf l).dv) ho.rd ho.ok (ok_of_vld h.2.2) (show len (valD (txOf l).body) ≤ _ by omega)) (hP.ext x) (show len (valD (txOf l).body) ≤ _ by omega)
    rw [txt_bs, text_back h.2.1 (powOk_of h.1)] at h1
    exact h1
  have HS : Hid (∀ A B ca cb w', Rd w' A (len (valD (txOf l).body)) (dg (valD (txOf l).body)) → Rd w' B (len (valD (txOf l).body)) (dg (valD (txOf l).body)) → Calls Tryz.prog 11 #[dv (txOf l).neg A (len (valD (txOf l).body)) ca (txOf l).den, dv (txOf l).neg B (len (valD (txOf l).body)) cb (txOf l).den] w' fun e w'' => e = .returned (.bool true) ∧ Ext w' w'') := fun A B ca cb w' ha hb =>
    same_true (d := (txOf l).dv) ha hb (show len (valD (txOf l).body) ≤ _ by omega)
  clear hE hP h hm hl2
  generalize len (valD (txOf l).body) = n at *
  generalize dg (valD (txOf l).body) = f at *
  generalize (txOf l).neg = ng at *
  generalize (txOf l).den = den at *
  obtain ⟨S, hS⟩ : ∃ S, bs l = S := ⟨_, rfl⟩
  rw [hS] at HA HB HX hs ⊢
  clear hS hl
  go_enter Tryz.func3, Tryz.ntmps3
  go_wp2_with (first
    | (go_at_call 7; (with_reducible refine (awake_any _ HT.out).mono ?_); rintro e w1 ⟨rfl, hx⟩; have X1 := Lib.hid hx; clear hx)
    | (go_at_call 8; (with_reducible refine (HA.out _ X1.out).mono ?_); rintro e w2 ⟨A, ca, rfl, ho, hx⟩; have HOA := Lib.hid ho; have X2 := Lib.hid hx; clear ho hx)
    | (go_at_call 9; (with_reducible refine (HB.out _).mono ?_); rintro e w3 ⟨B, cb, rfl, ho, hx⟩; have HOB := Lib.hid ho; have B1 := Lib.hid ((Bx.new w2 (.bool ng) (.slice A n ca) (I den) 25).ext hx); have X3 := Lib.hid ((Ext.alloc w2 (.cells #[.bool ng, .slice A n ca, I den] 25)).trans hx); clear ho hx)
    | (go_at_call 10; (with_reducible refine (numN _).mono ?_); rintro e w4 ⟨rfl, hx⟩; obtain ⟨⟨y0, y1, y2⟩, yz⟩ := (Bx.new w3 (.bool ng) (.slice B n cb) (I den) 25).ext hx; have X4 := Lib.hid ((Ext.alloc w3 (.cells #[.bool ng, .slice B n cb, I den] 25)).trans hx); obtain ⟨⟨z0, z1, z2⟩, zz⟩ := B1.out.ext X4.out; clear hx)
    | (go_at_call 11; (with_reducible refine (HS.out _ _ _ _ _ (HOA.out.rd.ext (X3.out.trans X4.out)) (HOB.out.rd.ext X4.out)).mono ?_); rintro e w5 ⟨rfl, hx⟩; have X5 := Lib.hid hx; clear z0 z1 z2 zz y0 y1 y2 yz; obtain ⟨⟨z0, z1, z2⟩, zz⟩ := B1.out.ext (X4.out.trans hx); clear hx)
    | (go_at_call 12; (with_reducible refine (HX.out A ca _ _ (HOA.out.ext ((X3.out.trans X4.out).trans X5.out)) (X1.out.trans (X2.out.trans ((X3.out.trans X4.out).trans X5.out)))).mono ?_); rintro e w6 ⟨rfl, hx⟩; have X6 := Lib.hid hx; clear hx))
  go_ret
  exact ⟨by simp, X1.out.trans (X2.out.trans (((X3.out.trans X4.out).trans X5.out).trans X6.out))⟩

set_option maxRecDepth 100000 in
set_option maxHeartbeats 4000000 in
theorem parses_bad (l : List UInt8) (w : World) (hT : Tabs w) (hE : Errs w) (hl : l.length ≤ 150) (h : ¬ (txOf l).good) : Calls Tryz.prog 3 #[.string (bs l)] w fun e w' => e = .returned (.bool true) ∧ Ext w w' := by
  have HT := Lib.hid hT; clear hT
  have hs : ((bs l).size : Int) ≤ 150 := by rw [bs_size]; omega
  have HA : Hid (∀ w', Ext w w' → Calls Tryz.prog 8 #[.string (bs l)] w' fun e w'' => e = .returned (.tuple #[dv false none 0 0 0, .iface 69 (I 2)]) ∧ Ext w' w'') := fun w' x =>
    (code_bad l w' (hE.ext x) (by omega) h).mono fun e w'' ⟨y, hr⟩ => by
      rcases hr with ⟨hf, _⟩ | ⟨_, he⟩
      · cases hf
      · exact ⟨he, y⟩
  have HB : Hid (∀ w', Calls Tryz.prog 9 #[.string (bs l)] w' fun e w'' => e = .returned (.tuple #[dv false none 0 0 0, I 2]) ∧ Ext w' w'') := fun w' =>
    (ref_bad l w' (by omega) h).mono fun e w'' ⟨y, hr⟩ => by
      rcases hr with ⟨hf, _⟩ | ⟨_, he⟩
      · cases hf
      · exact ⟨he, y⟩
  have HS : Hid (∀ w', Calls Tryz.prog 11 #[dv false none 0 0 0, dv false none 0 0 0] w' fun e w'' => e = .returned (.bool true) ∧ Ext w' w'') := fun w' => by
    have e0 : len DV.zero.m = 0 := len_zero
    have h0 := same_true (w := w') (d := DV.zero) (A := none) (B := none) (ca := 0) (cb := 0) (by rw [e0]; exact Rd.none_) (by rw [e0]; exact Rd.none_) (by rw [e0]; decide)
    rw [e0] at h0
    exact h0
  clear hE h
  obtain ⟨S, hS⟩ : ∃ S, bs l = S := ⟨_, rfl⟩
  rw [hS] at HA HB hs ⊢
  clear hS hl
  go_enter Tryz.func3, Tryz.ntmps3
  go_wp2_with (first
    | (go_at_call 7; (with_reducible refine (awake_any _ HT.out).mono ?_); rintro e w1 ⟨rfl, hx⟩; have X1 := Lib.hid hx; clear hx)
    | (go_at_call 8; (with_reducible refine (HA.out _ X1.out).mono ?_); rintro e w2 ⟨rfl, hx⟩; have X2 := Lib.hid hx; clear hx)
    | (go_at_call 9; (with_reducible refine (HB.out _).mono ?_); rintro e w3 ⟨rfl, hx⟩; have B1 := Lib.hid ((Bx.new w2 (.bool false) (.slice none 0 0) (I 0) 25).ext hx); have X3 := Lib.hid ((Ext.alloc w2 (.cells #[.bool false, .slice none 0 0, I 0] 25)).trans hx); clear hx)
    | (go_at_call 10; (with_reducible refine (numE2 _).mono ?_); rintro e w4 ⟨rfl, hx⟩; obtain ⟨⟨y0, y1, y2⟩, yz⟩ := (Bx.new w3 (.bool false) (.slice none 0 0) (I 0) 25).ext hx; have X4 := Lib.hid ((Ext.alloc w3 (.cells #[.bool false, .slice none 0 0, I 0] 25)).trans hx); obtain ⟨⟨z0, z1, z2⟩, zz⟩ := B1.out.ext X4.out; clear hx)
    | (go_at_call 11; (with_reducible refine (HS.out _).mono ?_); rintro e w5 ⟨rfl, hx⟩; have X5 := Lib.hid hx; clear hx))
  go_ret
  exact ⟨rfl, X1.out.trans (X2.out.trans ((X3.out.trans X4.out).trans X5.out))⟩

theorem parses_law (S : ByteArray) (w : World) (hT : Tabs w) (hP : TabP w) (hE : Errs w) : Calls Tryz.prog 3 #[.string S] w fun e w' => e = .returned (.bool true) ∧ Ext w w' := by
  by_cases hl : 150 < S.size
  · exact parses_long S w hT hl
  · have e : bs S.toList = S := bs_back S
    have hn : S.toList.length ≤ 150 := by rw [← bs_size, e]; omega
    rw [← e]
    by_cases h : (txOf S.toList).good
    · exact parses_good S.toList w hT hP hE hn h
    · exact parses_bad S.toList w hT hE hn h
end Go.Proofs.YtlnphamgmicniaaGreatDoor
