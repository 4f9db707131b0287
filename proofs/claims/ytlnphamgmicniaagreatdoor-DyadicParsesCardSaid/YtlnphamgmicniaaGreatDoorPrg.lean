/- The reference's digits. -/
import Derived.Test.YtlnphamgmicniaaGreatDoorPre
namespace Go.Proofs.YtlnphamgmicniaaGreatDoor
open Go.RowKit

theorem ten_step {S X x r c c' g pk : Nat} (h : S + c * pk = X * 10 + g) (h2 : r + c' * 4294967296 = c + x * 10) : S + r * pk + c' * (4294967296 * pk) = (X + x * pk) * 10 + g := by
  have e : (r + c' * 4294967296) * pk = (c + x * 10) * pk := by rw [h2]
  grind
theorem pB_len_le {m n : Nat} (h : pB n ≤ m) : n < len m := by
  rcases Nat.lt_or_ge n (len m) with h1 | h1
  · exact h1
  · exfalso
    have h2 := lt_pB_len m
    have h3 := pB_le h1
    omega
/-- What digits answers: the number, if the text is one. -/
def decV (l : List UInt8) : Nat := if decB l = true then valD l else 0
def DigRes (l : List UInt8) (w : World) (e : Ending) (w' : World) : Prop := ∃ A c, e = .returned (.tuple #[.slice A (len (decV l)) c, .bool (decB l)]) ∧ On w' w.heap.size A (len (decV l)) c (dg (decV l)) ∧ Ext w w'
theorem DigRes.no {l : List UInt8} {w w' : World} (h : decB l = false) (hx : Ext w w') : DigRes l w (.returned (.tuple #[.slice none 0 0, .bool false])) w' := by
  have e : decV l = 0 := by unfold decV; rw [h]; rfl
  unfold DigRes
  rw [e, h, len_zero]
  exact ⟨none, 0, rfl, On.nil _ _ _, hx⟩

set_option maxRecDepth 100000 in
set_option maxHeartbeats 4000000 in
theorem rdig_any (l : List UInt8) (w : World) (hn : l.length ≤ 200000) : Calls Tryz.prog 70 #[.string (bs l)] w (DigRes l w) := by
  obtain ⟨n, hne⟩ : ∃ n, l.length = n := ⟨_, rfl⟩
  obtain ⟨S, hS⟩ : ∃ S, bs l = S := ⟨_, rfl⟩
  have hsz : S.size = n := by rw [← hS, bs_size, hne]
  have hSl : S.toList = l := by rw [← hS, bs_toList]
  rw [hne] at hn
  have HN := Lib.hid hne; clear hne
  rw [hS]
  have HS := Lib.hid hS; clear hS
  by_cases he : l = []
  · have h1 : S.toList = [] := by rw [hSl, he]
    have HR : Hid (decB l = false) := by show _ = _; rw [he]; decide
    clear hSl he
    go_enter Tryz.func70, Tryz.ntmps70
    go_wp2_with fail
    all_goals (go_ret2; exact DigRes.no HR.out (Ext.refl _))
  · have h1 : ¬ S.toList = [] := by rw [hSl]; exact he
    have hn0 : 0 < n := by
      cases l with
      | nil => exact absurd rfl he
      | cons a b => have := HN.out; simp at this; omega
    have hkz : 0 < S.size := by omega
    have hn1 : (0 : Int) < (n : Int) := by omega
    obtain ⟨x0, hx0⟩ : ∃ x, (S[0]'hkz).toNat = x := ⟨_, rfl⟩
    have hSx : ((S[0]'hkz).toNat : Int) = (x0 : Int) := by rw [hx0]
    have hhd : l.head? = some (S[0]'hkz) := by
      rw [List.head?_eq_getElem?]
      have h0 : 0 < l.length := by rw [HN.out]; exact hn0
      rw [List.getElem?_eq_getElem h0]
      congr 1
      have : (bs l)[0]'(by rw [bs_size]; exact h0) = l[0] := rfl
      rw [← this]; congr 1
    by_cases hz : x0 = 48 ∧ 1 < n
    · obtain ⟨rfl, hz2⟩ := hz
      have hz3 : (1 : Int) < (n : Int) := by omega
      have HR : Hid (decB l = false) := by
        show _ = _
        unfold decB
        have e1 : S[0]'hkz = 48 := UInt8.toNat_inj.1 (by rw [hx0]; rfl)
        have e2 : l ≠ [48] := by intro e; have := HN.out; rw [e] at this; simp at this; omega
        rw [hhd, e1, beq_false_of_ne e2]; simp
      clear hSl he hhd hx0
      go_enter Tryz.func70, Tryz.ntmps70
      go_wp2_with fail
      all_goals (go_ret2; exact DigRes.no HR.out (Ext.refl _))
    · -- MAIN
      have hbz : decB l = false ∨ True := .inr trivial
      clear hbz
      have HHD := Lib.hid hhd
      have hem : S.toList.isEmpty = false := by simp [h1]
      clear h1
      clear hSl hhd
      by_cases hx48 : x0 = 48
      · have hx48i : (x0 : Int) = 48 := by omega
        have hn1' : ¬ (1 : Int) < (n : Int) := by omega
        have HDB : Hid ((∀ c ∈ l, isDig c) → decB l = true) := by
          intro hall
          unfold decB
          rw [List.all_eq_true.2 fun c hc => (digB'_iff c).2 (hall c hc)]
          have h48 : S[0]'hkz = 48 := UInt8.toNat_inj.1 (by rw [hx0, hx48]; rfl)
          have hl : l = [48] := by
            have h2 := HHD.out
            have h3 := HN.out
            rw [h48] at h2
            cases l with
            | nil => simp at h2
            | cons a b =>
              simp at h2 h3
              have : b.length = 0 := by omega
              rw [List.length_eq_zero_iff.1 this, h2]
          rw [hl]; decide
        subst hx48
        clear he hx0 hz
        go_enter Tryz.func70, Tryz.ntmps70
        go_wp2_with fail
        go_loopw [4, 22] (fun s4 s22 wr => ∃ (k : Nat) (A : Option Addr) (c : Nat), k ≤ n ∧ s4 = .slice A (len (valD (l.take k))) c ∧ s22 = I k ∧ Hid (∀ c ∈ l.take k, isDig c) ∧ Hid (On wr w.heap.size A (len (valD (l.take k))) c (dg (valD (l.take k)))) ∧ Hid (Ext w wr)) (fun _ s22 _ => n - (intOf s22).toNat)
        case atStart => exact ⟨0, none, 0, Nat.zero_le _, by rw [List.take_zero, show valD [] = 0 from rfl, len_zero], rfl, (by intro c hc; rw [List.take_zero] at hc; cases hc), (by rw [List.take_zero, show valD [] = 0 from rfl, len_zero]; exact On.nil _ _ _), Ext.refl _⟩
        case round =>
          obtain ⟨k, A, c, hk, rfl, rfl, hd, hO, hX⟩ := hrel
          by_cases hlt : k < n
          · have hk1 : (k : Int) < (n : Int) := by omega
            have hkz2 : k < S.size := by omega
            have hkl : k < l.length := by rw [HN.out]; exact hlt
            obtain ⟨ch, hch⟩ : ∃ ch, l[k]'hkl = ch := ⟨_, rfl⟩
            have hSi : S[k]'hkz2 = ch := by
              have : (bs l)[k]'(by rw [bs_size]; exact hkl) = ch := by rw [← hch]; rfl
              rw [← this]; congr 1; exact HS.out.symm
            have hmem : ch ∈ l := by rw [← hch]; exact List.getElem_mem _
            have hst : l.take (k + 1) = l.take k ++ [ch] := by rw [List.take_succ_eq_append_getElem hkl, hch]
            obtain ⟨x, hx⟩ : ∃ x, ch.toNat = x := ⟨_, rfl⟩
            have hSx2 : ((S[k]'hkz2).toNat : Int) = (x : Int) := by rw [hSi, hx]
            have hbad : (x < 48 ∨ 57 < x) → decB l = false := by
              intro hb
              unfold decB
              have : l.all digB' = false := by
                rw [List.all_eq_false]
                refine ⟨ch, hmem, ?_⟩
                intro h
                have := (digB'_iff ch).1 h
                have h1 := this.1; have h2 := this.2
                rw [hx] at h1 h2; omega
              rw [this, Bool.false_and]
            have HX := Lib.hid hx
            have HST := Lib.hid hst
            clear hx hmem hst hch hSi
            by_cases h48 : x < 48
            · have h48i : (x : Int) < 48 := by omega
              have hf := Lib.hid (hbad (.inl h48))
              clear hbad
              go_wp2_with fail
              all_goals (go_ret2; exact DigRes.no hf.out hX.out)
            · by_cases h57 : 57 < x
              · have h48i : ¬ (x : Int) < 48 := by omega
                have h57i : (57 : Int) < (x : Int) := by omega
                have hf := Lib.hid (hbad (.inr h57))
                clear hbad
                go_wp2_with fail
                all_goals (go_ret2; exact DigRes.no hf.out hX.out)
              · have h48i : ¬ (x : Int) < 48 := by omega
                have h57i : ¬ (57 : Int) < (x : Int) := by omega
                clear hbad
                obtain ⟨dd, hdd⟩ : ∃ d, x - 48 = d := ⟨_, rfl⟩
                have hdi : ((x : Int) - 48) % 256 = (dd : Int) := by omega
                have hd10 : dd < 10 := by omega
                obtain ⟨v, hv⟩ : ∃ v, valD (l.take k) = v := ⟨_, rfl⟩
                have HV1 : Hid (valD (l.take (k + 1)) = v * 10 + dd) := by show _ = _; rw [HST.out, valD_snoc, hv, HX.out, hdd]
                have HD1 : Hid (∀ c ∈ l.take (k + 1), isDig c) := by
                  intro c hc
                  rw [HST.out, List.mem_append] at hc
                  rcases hc with hc | hc
                  · exact hd.out c hc
                  · rw [List.mem_singleton] at hc
                    rw [hc]; exact ⟨by rw [HX.out]; omega, by rw [HX.out]; omega⟩
                have hvlt : v < 10 ^ k := by
                  have := valD_lt (l.take k) hd.out
                  rwa [List.length_take, Nat.min_eq_left (by rw [HN.out]; omega), hv] at this
                have hL : len v ≤ 1048576 := by
                  have h1 : v < pB k := Nat.lt_of_lt_of_le hvlt (Nat.pow_le_pow_left (by omega) k)
                  have := len_le h1
                  omega
                rw [hv] at hO ⊢
                have HVV := Lib.hid hv
                clear hv hvlt hd hdd
                have hvl := valN_dg_all (m := v) (k := len v) (Nat.le_refl _)
                obtain ⟨L, hLe⟩ : ∃ L, len v = L := ⟨_, rfl⟩
                rw [hLe] at hO hL hvl ⊢
                have HLE := Lib.hid hLe
                have HVL := Lib.hid hvl
                have HO := Lib.hid hO.out
                clear hvl hLe hO
                obtain ⟨w9, rfl⟩ : ∃ w9, w9 = wr := ⟨_, rfl⟩
                have hb : w.heap.size ≤ w9.heap.size := hX.out.size
                go_wp2_with fail
                go_loopw [6, 42] (fun s6 s42 wq => ∃ (j cy : Nat) (F : Nat → Nat), j ≤ L ∧ s42 = I j ∧ s6 = U8 cy ∧ cy < 10 ∧ Hid (On wq w.heap.size A L c F) ∧ Hid (w9.grownBy wq (Value.slice A L c).ownBlock) ∧ Hid (∀ i, i < L → F i < 4294967296) ∧ Hid (∀ i, j ≤ i → F i = dg v i) ∧ Hid (valN F j + cy * pB j = valN (dg v) j * 10 + dd)) (fun _ s42 _ => L - (intOf s42).toNat)
                case atStart => exact ⟨0, dd, dg v, Nat.zero_le _, rfl, (by first | rfl | rw [hdi] | rw [show (x : Int) - 48 = (dd : Int) by omega]), hd10, HO, fr_refl _ _, (fun _ _ => dg_lt _ _), (fun _ _ => rfl), by show _ = _; simp [valN, pB_zero]⟩
                case round =>
                  obtain ⟨j, cy, F, hj, rfl, rfl, hcy, hO, hfr, hFb, hFo, hvv⟩ := hrel
                  by_cases hltj : j < L
                  · obtain ⟨_, hz, _⟩ | ⟨gb, rfl, hrow⟩ := hO.out.cases
                    · omega
                    · have hj1 : (j : Int) < (L : Int) := by omega
                      have c1 := hrow.cell hltj
                      have f1 := hrow.frozen j
                      have hx := hFb.out j hltj
                      have hFk := Lib.hid (hFo.out j (Nat.le_refl _))
                      obtain ⟨y, hye⟩ : ∃ y, F j = y := ⟨_, rfl⟩
                      rw [hye] at c1 hx hFk
                      clear hye
                      obtain ⟨t, ht⟩ : ∃ t, cy + y * 10 = t := ⟨_, rfl⟩
                      have htb : t < 42949672960 := by omega
                      obtain ⟨r, hr⟩ : ∃ r, t % 4294967296 = r := ⟨_, rfl⟩
                      obtain ⟨c', hc'⟩ : ∃ c', t / 4294967296 = c' := ⟨_, rfl⟩
                      have h2 : r + c' * 4294967296 = cy + y * 10 := by omega
                      have HS2 := Lib.hid (ten_step hvv.out h2)
                      have e1 : (cy : Int) + (y : Int) * 10 = (t : Int) := by omega
                      have e2 : (t : Int) % 4294967296 = (r : Int) := by omega
                      have e3 : (t : Int) / 4294967296 = (c' : Int) := by omega
                      have e4 : (y : Int) * 10 % 18446744073709551616 = (y : Int) * 10 := by omega
                      have e5 : (t : Int) % 18446744073709551616 = (t : Int) := by omega
                      have hr1 : r < 4294967296 := by omega
                      have hc1 : c' < 10 := by omega
                      have HR := Lib.hid hrow
                      clear ht hr hc' h2 hrow hO
                      go_wp2_with fail
                      go_roundw
                      case rel =>
                        refine ⟨j + 1, c', upd F j r, by omega, by go_num, rfl, hc1, Row.on (Row.set HR.out j r), fr_trans hfr.out (Row.set_fr HR.out j r), upd_lt hFb.out hr1, ?_, ?_⟩
                        · exact fun i hi => by rw [upd_ne _ (by omega)]; exact hFo.out i (by omega)
                        · show _ = _
                          rw [valN_upd, pB_succ, valN, ← hFk.out]; exact HS2.out
                      case measure => simp [intOf]; omega
                  · obtain rfl : j = L := by omega
                    have hval := hvv.out
                    rw [HVL.out] at hval
                    have HW := Lib.hid hval
                    have HBW : Hid (Ext w wr) := Below.trans hX.out (Below.grown (Below.refl w.heap.size w9) hfr.out hb (fun i hi => (World.ownsRow.lt HO.out i hi).1))
                    clear hval hvv hFo
                    by_cases hc0 : cy = 0
                    · subst hc0
                      have hw0 : valN F j = v * 10 + dd := by have := HW.out; rw [Nat.zero_mul, Nat.add_zero] at this; exact this
                      have hl1 : len (v * 10 + dd) = j := by
                        apply Nat.le_antisymm
                        · rw [← hw0]; exact len_le (valN_lt hFb.out)
                        · rw [← HLE.out]; exact len_mono (by omega)
                      have HON : Hid (On wr w.heap.size A (len (v * 10 + dd)) c (dg (v * 10 + dd))) := by
                        show On _ _ _ _ _ _
                        rw [hl1]; exact hO.out.congr fun i hi => by rw [← hw0]; exact (dg_valN hFb.out hi).symm
                      have HL1 := Lib.hid hl1
                      clear hw0 hl1 hO
                      go_wp2_with fail
                      go_roundw
                      case rel => exact ⟨k + 1, A, c, by omega, by rw [HV1.out, HL1.out], by go_num, HD1, by rw [HV1.out]; exact HON, HBW⟩
                      case measure => simp [intOf]; omega
                    · have hc0i : (0 : Int) < (cy : Int) := by omega
                      have hcy4 : cy < 4294967296 := by omega
                      have e2 : (cy : Int) % 4294967296 = (cy : Int) := by omega
                      have hL12 : j ≤ 1099511627776 := by omega
                      have hsz : w.heap.size ≤ wr.heap.size := HBW.out.size
                      have HF : Hid (∀ i, i < j + 1 → upd F j cy i < 4294967296) := fun i hi => by
                        by_cases e : i = j
                        · rw [e, upd_same]; exact hcy4
                        · rw [upd_ne _ e]; exact hFb.out i (by omega)
                      have HVN : Hid (valN (upd F j cy) (j + 1) = v * 10 + dd) := by show _ = _; rw [valN_upd]; exact HW.out
                      have HL1 : Hid (len (v * 10 + dd) = j + 1) := by
                        show _ = _
                        apply Nat.le_antisymm
                        · rw [← HVN.out]; exact len_le (valN_lt HF.out)
                        · apply pB_len_le
                          have := HW.out
                          have h1 : pB j ≤ cy * pB j := Nat.le_mul_of_pos_left _ (by omega)
                          omega
                      have HOA := Lib.hid (hO.out.ext (Ext.alloc wr (.cells #[U4 cy] 80)))
                      have HCA : Hid ((wr.alloc (.cells #[U4 cy] 80)).cell? ⟨wr.heap.size, 0, none⟩ = some (U4 cy)) := by show _ = _; go_simp
                      have HSA : Hid (w.heap.size ≤ (wr.alloc (.cells #[U4 cy] 80)).heap.size) := by show _ ≤ _; simp; omega
                      have HBA : Hid (Ext w (wr.alloc (.cells #[U4 cy] 80))) := HBW.out.trans (Ext.alloc wr _)
                      go_wp2_with (at_builtin; refine app1 rfl _ _ rfl w.heap.size A j c F rfl HOA.out ⟨wr.heap.size, 0, none⟩ 1 cy rfl HCA.out hL12 HSA.out ?_; intro g3 c3 w4 hrow hg4 hat4 hlt4; have HR3 := Lib.hid hrow; have HX3 : Hid (Ext w w4) := Below.grown HBA.out hg4 HSA.out (fun i hi => (World.ownsRow.lt HOA.out i hi).1); clear hrow hg4 hat4 hlt4)
                      go_roundw
                      case rel =>
                        refine ⟨k + 1, some ⟨g3, 0, none⟩, c3, by omega, by rw [HV1.out, HL1.out], by go_num, HD1, ?_, HX3⟩
                        rw [HV1.out, HL1.out]
                        exact (HR3.out.congr fun i hi => by rw [← HVN.out]; exact (dg_valN HF.out hi).symm).on
                      case measure => simp [intOf]; omega
          · obtain rfl : k = n := by omega
            have hT : l.take k = l := List.take_of_length_le (by rw [HN.out]; exact Nat.le_refl _)
            have hd' := hd.out
            rw [hT] at hd'
            have HR := Lib.hid (HDB.out hd')
            have hOo := hO.out
            rw [hT] at hOo ⊢
            have HO := Lib.hid hOo
            clear hO hOo hd' hd
            go_wp2_with fail
            go_ret2
            have hv : decV l = valD l := by unfold decV; rw [if_pos HR.out]
            unfold DigRes
            rw [HR.out, hv]
            exact ⟨A, c, rfl, HO.out, hX.out⟩
      · have hx48i : ¬ (x0 : Int) = 48 := by omega
        have HDB : Hid ((∀ c ∈ l, isDig c) → decB l = true) := by
          intro hall
          unfold decB
          have hne : S[0]'hkz ≠ 48 := by intro e; apply hx48; rw [← hx0, e]; rfl
          rw [List.all_eq_true.2 fun c hc => (digB'_iff c).2 (hall c hc), HHD.out]
          simp [he, hne]
        clear he hx0 hz
        go_enter Tryz.func70, Tryz.ntmps70
        go_wp2_with fail
        go_loopw [4, 22] (fun s4 s22 wr => ∃ (k : Nat) (A : Option Addr) (c : Nat), k ≤ n ∧ s4 = .slice A (len (valD (l.take k))) c ∧ s22 = I k ∧ Hid (∀ c ∈ l.take k, isDig c) ∧ Hid (On wr w.heap.size A (len (valD (l.take k))) c (dg (valD (l.take k)))) ∧ Hid (Ext w wr)) (fun _ s22 _ => n - (intOf s22).toNat)
        case atStart => exact ⟨0, none, 0, Nat.zero_le _, by rw [List.take_zero, show valD [] = 0 from rfl, len_zero], rfl, (by intro c hc; rw [List.take_zero] at hc; cases hc), (by rw [List.take_zero, show valD [] = 0 from rfl, len_zero]; exact On.nil _ _ _), Ext.refl _⟩
        case round =>
          obtain ⟨k, A, c, hk, rfl, rfl, hd, hO, hX⟩ := hrel
          by_cases hlt : k < n
          · have hk1 : (k : Int) < (n : Int) := by omega
            have hkz2 : k < S.size := by omega
            have hkl : k < l.length := by rw [HN.out]; exact hlt
            obtain ⟨ch, hch⟩ : ∃ ch, l[k]'hkl = ch := ⟨_, rfl⟩
            have hSi : S[k]'hkz2 = ch := by
              have : (bs l)[k]'(by rw [bs_size]; exact hkl) = ch := by rw [← hch]; rfl
              rw [← this]; congr 1; exact HS.out.symm
            have hmem : ch ∈ l := by rw [← hch]; exact List.getElem_mem _
            have hst : l.take (k + 1) = l.take k ++ [ch] := by rw [List.take_succ_eq_append_getElem hkl, hch]
            obtain ⟨x, hx⟩ : ∃ x, ch.toNat = x := ⟨_, rfl⟩
            have hSx2 : ((S[k]'hkz2).toNat : Int) = (x : Int) := by rw [hSi, hx]
            have hbad : (x < 48 ∨ 57 < x) → decB l = false := by
              intro hb
              unfold decB
              have : l.all digB' = false := by
                rw [List.all_eq_false]
                refine ⟨ch, hmem, ?_⟩
                intro h
                have := (digB'_iff ch).1 h
                have h1 := this.1; have h2 := this.2
                rw [hx] at h1 h2; omega
              rw [this, Bool.false_and]
            have HX := Lib.hid hx
            have HST := Lib.hid hst
            clear hx hmem hst hch hSi
            by_cases h48 : x < 48
            · have h48i : (x : Int) < 48 := by omega
              have hf := Lib.hid (hbad (.inl h48))
              clear hbad
              go_wp2_with fail
              all_goals (go_ret2; exact DigRes.no hf.out hX.out)
            · by_cases h57 : 57 < x
              · have h48i : ¬ (x : Int) < 48 := by omega
                have h57i : (57 : Int) < (x : Int) := by omega
                have hf := Lib.hid (hbad (.inr h57))
                clear hbad
                go_wp2_with fail
                all_goals (go_ret2; exact DigRes.no hf.out hX.out)
              · have h48i : ¬ (x : Int) < 48 := by omega
                have h57i : ¬ (57 : Int) < (x : Int) := by omega
                clear hbad
                obtain ⟨dd, hdd⟩ : ∃ d, x - 48 = d := ⟨_, rfl⟩
                have hdi : ((x : Int) - 48) % 256 = (dd : Int) := by omega
                have hd10 : dd < 10 := by omega
                obtain ⟨v, hv⟩ : ∃ v, valD (l.take k) = v := ⟨_, rfl⟩
                have HV1 : Hid (valD (l.take (k + 1)) = v * 10 + dd) := by show _ = _; rw [HST.out, valD_snoc, hv, HX.out, hdd]
                have HD1 : Hid (∀ c ∈ l.take (k + 1), isDig c) := by
                  intro c hc
                  rw [HST.out, List.mem_append] at hc
                  rcases hc with hc | hc
                  · exact hd.out c hc
                  · rw [List.mem_singleton] at hc
                    rw [hc]; exact ⟨by rw [HX.out]; omega, by rw [HX.out]; omega⟩
                have hvlt : v < 10 ^ k := by
                  have := valD_lt (l.take k) hd.out
                  rwa [List.length_take, Nat.min_eq_left (by rw [HN.out]; omega), hv] at this
                have hL : len v ≤ 1048576 := by
                  have h1 : v < pB k := Nat.lt_of_lt_of_le hvlt (Nat.pow_le_pow_left (by omega) k)
                  have := len_le h1
                  omega
                rw [hv] at hO ⊢
                have HVV := Lib.hid hv
                clear hv hvlt hd hdd
                have hvl := valN_dg_all (m := v) (k := len v) (Nat.le_refl _)
                obtain ⟨L, hLe⟩ : ∃ L, len v = L := ⟨_, rfl⟩
                rw [hLe] at hO hL hvl ⊢
                have HLE := Lib.hid hLe
                have HVL := Lib.hid hvl
                have HO := Lib.hid hO.out
                clear hvl hLe hO
                obtain ⟨w9, rfl⟩ : ∃ w9, w9 = wr := ⟨_, rfl⟩
                have hb : w.heap.size ≤ w9.heap.size := hX.out.size
                go_wp2_with fail
                go_loopw [6, 42] (fun s6 s42 wq => ∃ (j cy : Nat) (F : Nat → Nat), j ≤ L ∧ s42 = I j ∧ s6 = U8 cy ∧ cy < 10 ∧ Hid (On wq w.heap.size A L c F) ∧ Hid (w9.grownBy wq (Value.slice A L c).ownBlock) ∧ Hid (∀ i, i < L → F i < 4294967296) ∧ Hid (∀ i, j ≤ i → F i = dg v i) ∧ Hid (valN F j + cy * pB j = valN (dg v) j * 10 + dd)) (fun _ s42 _ => L - (intOf s42).toNat)
                case atStart => exact ⟨0, dd, dg v, Nat.zero_le _, rfl, (by first | rfl | rw [hdi] | rw [show (x : Int) - 48 = (dd : Int) by omega]), hd10, HO, fr_refl _ _, (fun _ _ => dg_lt _ _), (fun _ _ => rfl), by show _ = _; simp [valN, pB_zero]⟩
                case round =>
                  obtain ⟨j, cy, F, hj, rfl, rfl, hcy, hO, hfr, hFb, hFo, hvv⟩ := hrel
                  by_cases hltj : j < L
                  · obtain ⟨_, hz, _⟩ | ⟨gb, rfl, hrow⟩ := hO.out.cases
                    · omega
                    · have hj1 : (j : Int) < (L : Int) := by omega
                      have c1 := hrow.cell hltj
                      have f1 := hrow.frozen j
                      have hx := hFb.out j hltj
                      have hFk := Lib.hid (hFo.out j (Nat.le_refl _))
                      obtain ⟨y, hye⟩ : ∃ y, F j = y := ⟨_, rfl⟩
                      rw [hye] at c1 hx hFk
                      clear hye
                      obtain ⟨t, ht⟩ : ∃ t, cy + y * 10 = t := ⟨_, rfl⟩
                      have htb : t < 42949672960 := by omega
                      obtain ⟨r, hr⟩ : ∃ r, t % 4294967296 = r := ⟨_, rfl⟩
                      obtain ⟨c', hc'⟩ : ∃ c', t / 4294967296 = c' := ⟨_, rfl⟩
                      have h2 : r + c' * 4294967296 = cy + y * 10 := by omega
                      have HS2 := Lib.hid (ten_step hvv.out h2)
                      have e1 : (cy : Int) + (y : Int) * 10 = (t : Int) := by omega
                      have e2 : (t : Int) % 4294967296 = (r : Int) := by omega
                      have e3 : (t : Int) / 4294967296 = (c' : Int) := by omega
                      have e4 : (y : Int) * 10 % 18446744073709551616 = (y : Int) * 10 := by omega
                      have e5 : (t : Int) % 18446744073709551616 = (t : Int) := by omega
                      have hr1 : r < 4294967296 := by omega
                      have hc1 : c' < 10 := by omega
                      have HR := Lib.hid hrow
                      clear ht hr hc' h2 hrow hO
                      go_wp2_with fail
                      go_roundw
                      case rel =>
                        refine ⟨j + 1, c', upd F j r, by omega, by go_num, rfl, hc1, Row.on (Row.set HR.out j r), fr_trans hfr.out (Row.set_fr HR.out j r), upd_lt hFb.out hr1, ?_, ?_⟩
                        · exact fun i hi => by rw [upd_ne _ (by omega)]; exact hFo.out i (by omega)
                        · show _ = _
                          rw [valN_upd, pB_succ, valN, ← hFk.out]; exact HS2.out
                      case measure => simp [intOf]; omega
                  · obtain rfl : j = L := by omega
                    have hval := hvv.out
                    rw [HVL.out] at hval
                    have HW := Lib.hid hval
                    have HBW : Hid (Ext w wr) := Below.trans hX.out (Below.grown (Below.refl w.heap.size w9) hfr.out hb (fun i hi => (World.ownsRow.lt HO.out i hi).1))
                    clear hval hvv hFo
                    by_cases hc0 : cy = 0
                    · subst hc0
                      have hw0 : valN F j = v * 10 + dd := by have := HW.out; rw [Nat.zero_mul, Nat.add_zero] at this; exact this
                      have hl1 : len (v * 10 + dd) = j := by
                        apply Nat.le_antisymm
                        · rw [← hw0]; exact len_le (valN_lt hFb.out)
                        · rw [← HLE.out]; exact len_mono (by omega)
                      have HON : Hid (On wr w.heap.size A (len (v * 10 + dd)) c (dg (v * 10 + dd))) := by
                        show On _ _ _ _ _ _
                        rw [hl1]; exact hO.out.congr fun i hi => by rw [← hw0]; exact (dg_valN hFb.out hi).symm
                      have HL1 := Lib.hid hl1
                      clear hw0 hl1 hO
                      go_wp2_with fail
                      go_roundw
                      case rel => exact ⟨k + 1, A, c, by omega, by rw [HV1.out, HL1.out], by go_num, HD1, by rw [HV1.out]; exact HON, HBW⟩
                      case measure => simp [intOf]; omega
                    · have hc0i : (0 : Int) < (cy : Int) := by omega
                      have hcy4 : cy < 4294967296 := by omega
                      have e2 : (cy : Int) % 4294967296 = (cy : Int) := by omega
                      have hL12 : j ≤ 1099511627776 := by omega
                      have hsz : w.heap.size ≤ wr.heap.size := HBW.out.size
                      have HF : Hid (∀ i, i < j + 1 → upd F j cy i < 4294967296) := fun i hi => by
                        by_cases e : i = j
                        · rw [e, upd_same]; exact hcy4
                        · rw [upd_ne _ e]; exact hFb.out i (by omega)
                      have HVN : Hid (valN (upd F j cy) (j + 1) = v * 10 + dd) := by show _ = _; rw [valN_upd]; exact HW.out
                      have HL1 : Hid (len (v * 10 + dd) = j + 1) := by
                        show _ = _
                        apply Nat.le_antisymm
                        · rw [← HVN.out]; exact len_le (valN_lt HF.out)
                        · apply pB_len_le
                          have := HW.out
                          have h1 : pB j ≤ cy * pB j := Nat.le_mul_of_pos_left _ (by omega)
                          omega
                      have HOA := Lib.hid (hO.out.ext (Ext.alloc wr (.cells #[U4 cy] 80)))
                      have HCA : Hid ((wr.alloc (.cells #[U4 cy] 80)).cell? ⟨wr.heap.size, 0, none⟩ = some (U4 cy)) := by show _ = _; go_simp
                      have HSA : Hid (w.heap.size ≤ (wr.alloc (.cells #[U4 cy] 80)).heap.size) := by show _ ≤ _; simp; omega
                      have HBA : Hid (Ext w (wr.alloc (.cells #[U4 cy] 80))) := HBW.out.trans (Ext.alloc wr _)
                      go_wp2_with (at_builtin; refine app1 rfl _ _ rfl w.heap.size A j c F rfl HOA.out ⟨wr.heap.size, 0, none⟩ 1 cy rfl HCA.out hL12 HSA.out ?_; intro g3 c3 w4 hrow hg4 hat4 hlt4; have HR3 := Lib.hid hrow; have HX3 : Hid (Ext w w4) := Below.grown HBA.out hg4 HSA.out (fun i hi => (World.ownsRow.lt HOA.out i hi).1); clear hrow hg4 hat4 hlt4)
                      go_roundw
                      case rel =>
                        refine ⟨k + 1, some ⟨g3, 0, none⟩, c3, by omega, by rw [HV1.out, HL1.out], by go_num, HD1, ?_, HX3⟩
                        rw [HV1.out, HL1.out]
                        exact (HR3.out.congr fun i hi => by rw [← HVN.out]; exact (dg_valN HF.out hi).symm).on
                      case measure => simp [intOf]; omega
          · obtain rfl : k = n := by omega
            have hT : l.take k = l := List.take_of_length_le (by rw [HN.out]; exact Nat.le_refl _)
            have hd' := hd.out
            rw [hT] at hd'
            have HR := Lib.hid (HDB.out hd')
            have hOo := hO.out
            rw [hT] at hOo ⊢
            have HO := Lib.hid hOo
            clear hO hOo hd' hd
            go_wp2_with fail
            go_ret2
            have hv : decV l = valD l := by unfold decV; rw [if_pos HR.out]
            unfold DigRes
            rw [HR.out, hv]
            exact ⟨A, c, rfl, HO.out, hX.out⟩
end Go.Proofs.YtlnphamgmicniaaGreatDoor
