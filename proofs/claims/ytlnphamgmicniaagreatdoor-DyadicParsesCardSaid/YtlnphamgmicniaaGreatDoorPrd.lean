/- The exponent of two, read as a number of Go. -/
import Derived.Test.YtlnphamgmicniaaGreatDoorPrc
import Derived.Test.YtlnphamgmicniaaGreatDoorShelf
namespace Go.Proofs.YtlnphamgmicniaaGreatDoor
open Go.RowKit

theorem valD_cons (c : UInt8) (l : List UInt8) : valD (c :: l) = (c.toNat - 48) * 10 ^ l.length + valD l := by
  have := valD_app [c] l
  rw [List.singleton_append] at this
  rw [this]; unfold valD; simp
theorem uint_of_digs : ∀ (l : List UInt8) (acc : Nat), (∀ c ∈ l, isDig c) → acc * 10 ^ l.length + valD l < 18446744073709551616 → Lib.parseUint10 acc l = .ok (acc * 10 ^ l.length + valD l)
  | [], acc, _, _ => by unfold Lib.parseUint10 valD; simp
  | c :: r, acc, hd, hb => by
    have h1 := hd c (by simp)
    have h2 := h1.1; have h3 := h1.2
    have e : acc * 10 ^ (c :: r).length + valD (c :: r) = (acc * 10 + (c.toNat - 48)) * 10 ^ r.length + valD r := by
      rw [valD_cons, List.length_cons, Nat.pow_succ]; grind
    rw [e] at hb ⊢
    have hp : 1 ≤ 10 ^ r.length := Nat.pow_pos (by omega)
    have hle : acc * 10 + (c.toNat - 48) ≤ (acc * 10 + (c.toNat - 48)) * 10 ^ r.length := Nat.le_mul_of_pos_right _ hp
    unfold Lib.parseUint10
    rw [if_pos ⟨h2, h3⟩, if_neg (by omega), if_neg (by omega)]
    exact uint_of_digs r _ (fun c hc => hd c (by simp [hc])) hb
theorem digs_of_uint : ∀ (l : List UInt8) (acc u : Nat), Lib.parseUint10 acc l = .ok u → u = acc * 10 ^ l.length + valD l ∧ ∀ c ∈ l, isDig c
  | [], acc, u, h => by
    unfold Lib.parseUint10 at h
    injection h with h
    exact ⟨by unfold valD; simp [h], by intro c hc; cases hc⟩
  | c :: r, acc, u, h => by
    unfold Lib.parseUint10 at h
    split at h
    · rename_i h1
      split at h
      · cases h
      · split at h
        · cases h
        · obtain ⟨h2, h3⟩ := digs_of_uint r _ u h
          refine ⟨?_, ?_⟩
          · rw [h2, valD_cons, List.length_cons, Nat.pow_succ]; grind
          · intro d hd
            rcases List.mem_cons.1 hd with rfl | hd
            · exact h1
            · exact h3 d hd
    · cases h
theorem atoi_dec {l : List UInt8} (h : decB l = true) (v : Int) : Lib.atoiAll l = .ok v ↔ v = valD l ∧ valD l < 9223372036854775808 := by
  have hd := decB_digs h
  cases l with
  | nil => exact absurd h (by decide)
  | cons c r =>
    have hc := hd c (by simp)
    have h2 := hc.1; have h3 := hc.2
    rw [Lib.atoiAll_plain c r (by omega) (by omega)]
    unfold Lib.parseMag
    rw [if_neg (by simp)]
    constructor
    · intro hv
      cases hp : Lib.parseUint10 0 (c :: r) with
      | range => rw [hp] at hv; cases hv
      | ok u =>
        obtain ⟨h4, _⟩ := digs_of_uint _ _ _ hp
        rw [hp] at hv
        simp only [Lib.signless] at hv
        split at hv
        · cases hv
        · injection hv with hv
          rw [Nat.zero_mul, Nat.zero_add] at h4
          exact ⟨by rw [← hv, h4], by omega⟩
      | _ => rw [hp] at hv; cases hv
    · rintro ⟨rfl, hlt⟩
      rw [uint_of_digs (c :: r) 0 hd (by omega), Nat.zero_mul, Nat.zero_add]
      simp only [Lib.signless]
      rw [if_neg (by omega)]

/-- What the library's own variables hold. -/
def Errs (w : World) : Prop := (∃ t p, w.cell? ⟨2, 0, none⟩ = some (.iface t p)) ∧ (∃ t p, w.cell? ⟨3, 0, none⟩ = some (.iface t p)) ∧ ∃ m, w.cell? ⟨0, 0, none⟩ = some (I m)
theorem cell_lt {w : World} {b i : Nat} {v : Value} (h : w.cell? ⟨b, i, none⟩ = some v) : b < w.heap.size := Lib.lt_of_cell h
theorem Errs.ext {w w' : World} (h : Errs w) (hx : Ext w w') : Errs w' := by
  obtain ⟨⟨t, p, h1⟩, ⟨t', p', h2⟩, m, h3⟩ := h
  exact ⟨⟨t, p, (hx.old.1 _ _ (cell_lt h1)).trans h1⟩, ⟨t', p', (hx.old.1 _ _ (cell_lt h2)).trans h2⟩, m, (hx.old.1 _ _ (cell_lt h3)).trans h3⟩
theorem ext_bytes (w : World) (e : TypeId) (s : ByteArray) : Ext w (Lib.bytesWorld w e s) := Lib.bytesWorld_below w e s
theorem atoi_good (l : List UInt8) (w : World) (hn : l.length ≤ 200000) (v : Int) (hr : Lib.atoiAll l = .ok v) : Calls Tryz.prog 112 #[.string (bs l)] w (fun e w' => e = .returned (.tuple #[I v, .nilIface]) ∧ Ext w w') := by
  have hs : (bs l).size ≤ 200000 := by rw [bs_size]; exact hn
  have hl : (bs l).data.toList = l := bs_list l
  refine (Tryz.strconv_Atoi_ok (bs l) (by omega) v (by rw [hl]; exact hr) w).mono ?_
  rintro e w' ⟨rfl, hw⟩
  refine ⟨rfl, ?_⟩
  rcases hw with rfl | ⟨t, rfl⟩
  · exact Ext.refl _
  · exact ext_bytes _ _ _
theorem atoi_bad (l : List UInt8) (w : World) (hE : Errs w) (hn : l.length ≤ 200000) (hr : ∀ v, Lib.atoiAll l ≠ .ok v) : Calls Tryz.prog 112 #[.string (bs l)] w (fun e w' => (∃ v t p, e = .returned (.tuple #[I v, .iface t p])) ∧ Ext w w') := by
  obtain ⟨⟨t, p, h1⟩, ⟨t', p', h2⟩, _⟩ := hE
  have hs : (bs l).size ≤ 200000 := by rw [bs_size]; exact hn
  have hl : (bs l).data.toList = l := bs_list l
  cases hr' : Lib.atoiAll l with
  | ok v => exact absurd hr' (hr v)
  | range =>
    refine (Tryz.strconv_Atoi_range (bs l) (by omega) (by rw [hl]; exact hr') _ w h2 (.inr ⟨_, _, rfl⟩)).mono ?_
    rintro e w' ⟨N, rfl, _, _, hb⟩
    exact ⟨⟨_, _, _, rfl⟩, hb⟩
  | _ =>
    refine (Any.strconv_Atoi_syntax Tryz.laysC172 (bs l) (by omega) (by rw [hl]; exact hr') _ w h1 (.inr ⟨_, _, rfl⟩)).mono ?_
    rintro e w' ⟨N, rfl, _, _, hb⟩
    exact ⟨⟨_, _, _, rfl⟩, hb⟩

/-- What parseDen answers. -/
def PD (fr : Bool) (l : List UInt8) (v : Int) (b : Bool) : Prop :=
  (fr = false → v = 0 ∧ b = true) ∧ (fr = true → (b = true ↔ decB l = true ∧ 0 < valD l ∧ valD l < 9223372036854775808) ∧ (b = true → v = valD l))
def PDRes (fr : Bool) (l : List UInt8) (w : World) (e : Ending) (w' : World) : Prop := Ext w w' ∧ ∃ v b, e = .returned (.tuple #[I v, .bool b]) ∧ PD fr l v b
set_option maxRecDepth 100000 in
set_option maxHeartbeats 4000000 in
theorem pden_any (fr : Bool) (l : List UInt8) (w : World) (hE : Errs w) (hn : l.length ≤ 200000) :
    Calls Tryz.prog 66 #[.string (bs l), .bool fr] w (PDRes fr l w) := by
  have HG := Lib.hid (fun v hv => atoi_good l w hn v hv)
  have HB := Lib.hid (fun hv => atoi_bad l w hE hn hv)
  obtain ⟨S, hS⟩ : ∃ S, bs l = S := ⟨_, rfl⟩
  have hd : ∀ w', Calls Tryz.prog 67 #[.string S] w' (fun e w'' => e = .returned (.bool (decB l)) ∧ w'' = w') := fun w' => by rw [← hS]; exact isdec_any l w' hn
  rw [hS] at HG HB ⊢
  clear hS hE
  have HD := Lib.hid hd
  clear hd
  cases fr with
  | false =>
    go_enter Tryz.func66, Tryz.ntmps66
    go_wp2_with fail
    go_ret2
    exact ⟨Ext.refl _, 0, true, rfl, fun _ => ⟨rfl, rfl⟩, fun h => by cases h⟩
  | true =>
    by_cases hk : ∃ v, Lib.atoiAll l = .ok v
    · obtain ⟨v, hk⟩ := hk
      have HA := Lib.hid (HG.out v hk)
      have HK := Lib.hid hk
      clear HG HB hk
      obtain ⟨dl, hdl⟩ : ∃ dl, decB l = dl := ⟨_, rfl⟩
      rw [hdl] at HD
      have HDL := Lib.hid hdl
      clear hdl
      by_cases hp : 0 < v
      · go_enter Tryz.func66, Tryz.ntmps66
        go_wp2_with (first
          | (go_at_call 112; (with_reducible refine (HA.out).mono ?_); rintro e w1 ⟨rfl, hx⟩; have HX := Lib.hid hx; clear hx)
          | (go_at_call 67; (with_reducible refine (HD.out _).mono ?_); rintro e w2 ⟨rfl, rfl⟩))
        go_ret2
        refine ⟨HX.out, v, dl, rfl, (fun h => by cases h), fun _ => ⟨⟨fun h => ?_, fun h => ?_⟩, fun h => ?_⟩⟩
        · have h1 := HDL.out.trans h
          obtain ⟨h2, h3⟩ := (atoi_dec h1 v).1 HK.out
          exact ⟨h1, by omega, h3⟩
        · exact HDL.out.symm.trans h.1
        · exact ((atoi_dec (HDL.out.trans h) v).1 HK.out).1
      · go_enter Tryz.func66, Tryz.ntmps66
        go_wp2_with (first
          | (go_at_call 112; (with_reducible refine (HA.out).mono ?_); rintro e w1 ⟨rfl, hx⟩; have HX := Lib.hid hx; clear hx)
          | (go_at_call 67; (with_reducible refine (HD.out _).mono ?_); rintro e w2 ⟨rfl, rfl⟩))
        go_ret2
        refine ⟨HX.out, v, false, rfl, (fun h => by cases h), fun _ => ⟨⟨fun h => (by cases h), fun h => ?_⟩, fun h => (by cases h)⟩⟩
        obtain ⟨h2, h3⟩ := (atoi_dec h.1 v).1 HK.out
        have := h.2.1; omega
    · have HA := Lib.hid (HB.out (fun v hv => hk ⟨v, hv⟩))
      go_enter Tryz.func66, Tryz.ntmps66
      go_wp2_with (first
        | (go_at_call 112; (with_reducible refine (HA.out).mono ?_); rintro e w1 ⟨⟨v, t, p, rfl⟩, hx⟩; have HX := Lib.hid hx; clear hx))
      all_goals (go_ret2; refine ⟨HX.out, v, false, rfl, (fun h => by cases h), fun _ => ⟨⟨fun h => (by cases h), fun h => ?_⟩, fun h => (by cases h)⟩⟩; exact absurd ⟨_, (atoi_dec h.1 _).2 ⟨rfl, h.2.2⟩⟩ hk)
end Go.Proofs.YtlnphamgmicniaaGreatDoor
