/- Telling decimal digits. -/
import Derived.Test.YtlnphamgmicniaaGreatDoorPrb
namespace Go.Proofs.YtlnphamgmicniaaGreatDoor
open Go.RowKit

def digB' (c : UInt8) : Bool := decide (48 ≤ c.toNat) && decide (c.toNat ≤ 57)
def decB (l : List UInt8) : Bool := l.all digB' && (l == [48] || (l != [] && l.head? != some 48))
theorem digB'_iff (c : UInt8) : digB' c = true ↔ isDig c := by unfold digB' isDig; simp
theorem decB_digs {l : List UInt8} (h : decB l = true) : ∀ c ∈ l, isDig c := by
  unfold decB at h
  rw [Bool.and_eq_true] at h
  exact fun c hc => (digB'_iff c).1 (List.all_eq_true.1 h.1 c hc)

set_option maxRecDepth 100000 in
set_option maxHeartbeats 4000000 in
theorem isdec_any (l : List UInt8) (w : World) (hn : l.length ≤ 200000) :
    Calls Tryz.prog 67 #[.string (bs l)] w (fun e w' => e = .returned (.bool (decB l)) ∧ w' = w) := by
  obtain ⟨n, hne⟩ : ∃ n, l.length = n := ⟨_, rfl⟩
  obtain ⟨S, hS⟩ : ∃ S, bs l = S := ⟨_, rfl⟩
  have hsz : S.size = n := by rw [← hS, bs_size, hne]
  rw [hne] at hn
  have HN := Lib.hid hne; clear hne
  rw [hS]
  have HS := Lib.hid hS; clear hS
  go_enter Tryz.func67, Tryz.ntmps67
  go_wp2_with fail
  go_loopw [6] (fun s6 wr => w = wr ∧ ∃ (k : Nat), k ≤ n ∧ s6 = I k ∧ Hid (∀ c ∈ l.take k, isDig c)) (fun s6 _ => n - (intOf s6).toNat)
  case atStart => exact ⟨rfl, 0, Nat.zero_le _, rfl, by intro c hc; rw [List.take_zero] at hc; cases hc⟩
  case round =>
    obtain ⟨rfl, k, hk, rfl, hd⟩ := hrel
    by_cases hlt : k < n
    · have hk1 : (k : Int) < (n : Int) := by omega
      have hkz : k < S.size := by omega
      have hkl : k < l.length := by rw [HN.out]; exact hlt
      obtain ⟨ch, hch⟩ : ∃ ch, l[k]'hkl = ch := ⟨_, rfl⟩
      have hSi : S[k]'hkz = ch := by
        have : (bs l)[k]'(by rw [bs_size]; exact hkl) = ch := by rw [← hch]; rfl
        rw [← this]; congr 1; exact HS.out.symm
      have hmem : ch ∈ l := by rw [← hch]; exact List.getElem_mem _
      have hst : l.take (k + 1) = l.take k ++ [ch] := by rw [List.take_succ_eq_append_getElem hkl, hch]
      obtain ⟨x, hx⟩ : ∃ x, ch.toNat = x := ⟨_, rfl⟩
      have hSx : ((S[k]'hkz).toNat : Int) = (x : Int) := by rw [hSi, hx]
      have HX := Lib.hid hx
      have HM := Lib.hid hmem
      have HST := Lib.hid hst
      clear hx hmem hst hch hSi
      have hbad : (x < 48 ∨ 57 < x) → decB l = false := by
        intro hb
        unfold decB
        have : l.all digB' = false := by
          rw [List.all_eq_false]
          refine ⟨ch, HM.out, ?_⟩
          intro h
          have := (digB'_iff ch).1 h
          have h1 := this.1; have h2 := this.2
          rw [HX.out] at h1 h2; omega
        rw [this, Bool.false_and]
      by_cases h48 : x < 48
      · have h48i : (x : Int) < 48 := by omega
        have hf := Lib.hid (hbad (.inl h48))
        clear hbad
        go_wp2_with fail
        all_goals (go_ret; exact ⟨by rw [hf.out]; rfl, rfl⟩)
      · by_cases h57 : 57 < x
        · have h48i : ¬ (x : Int) < 48 := by omega
          have h57i : (57 : Int) < (x : Int) := by omega
          have hf := Lib.hid (hbad (.inr h57))
          clear hbad
          go_wp2_with fail
          all_goals (go_ret; exact ⟨by rw [hf.out]; rfl, rfl⟩)
        · have h48i : ¬ (x : Int) < 48 := by omega
          have h57i : ¬ (57 : Int) < (x : Int) := by omega
          clear hbad
          go_wp2_with fail
          go_roundw
          case rel =>
            refine ⟨trivial, k + 1, by omega, by go_num, ?_⟩
            intro c hc
            rw [HST.out, List.mem_append] at hc
            rcases hc with hc | hc
            · exact hd.out c hc
            · rw [List.mem_singleton] at hc
              rw [hc]; exact ⟨by rw [HX.out]; omega, by rw [HX.out]; omega⟩
          case measure => simp [intOf]; omega
    · obtain rfl : k = n := by omega
      have hd' : ∀ c ∈ l, isDig c := by
        intro c hc; apply hd.out c; rwa [List.take_of_length_le (by rw [HN.out]; exact Nat.le_refl _)]
      have hall : l.all digB' = true := List.all_eq_true.2 fun c hc => (digB'_iff c).2 (hd' c hc)
      have hSl : S.toList = l := by rw [← HS.out, bs_toList]
      have HAll := Lib.hid hall
      clear hd' hall
      by_cases hz : l = [48]
      · have h1 : S.toList = [48] := by rw [hSl, hz]
        have HR : Hid (decB l = true) := by show _ = _; rw [hz]; decide
        clear hSl hz
        go_wp2_with fail
        all_goals (go_ret; exact ⟨by rw [HR.out]; rfl, rfl⟩)
      · by_cases he : l = []
        · have h1 : S.toList = [] := by rw [hSl, he]
          have HR : Hid (decB l = false) := by show _ = _; rw [he]; decide
          clear hSl hz he
          go_wp2_with fail
          all_goals (go_ret; exact ⟨by rw [HR.out]; rfl, rfl⟩)
        · have h1 : ¬ S.toList = [48] := by rw [hSl]; exact hz
          have h2 : ¬ S.toList = [] := by rw [hSl]; exact he
          have hk0 : 0 < k := by
            cases l with
            | nil => exact absurd rfl he
            | cons a b => have := HN.out; simp at this; omega
          have hkz : 0 < S.size := by omega
          obtain ⟨x, hx⟩ : ∃ x, (S[0]'hkz).toNat = x := ⟨_, rfl⟩
          have hSx : ((S[0]'hkz).toNat : Int) = (x : Int) := by rw [hx]
          have hhd : l.head? = some (S[0]'hkz) := by
            rw [List.head?_eq_getElem?]
            have h0 : 0 < l.length := by rw [HN.out]; exact hk0
            rw [List.getElem?_eq_getElem h0]
            congr 1
            have : (bs l)[0]'(by rw [bs_size]; exact h0) = l[0] := rfl
            rw [← this]; congr 1
          have HR : Hid (decB l = decide (x ≠ 48)) := by
            show _ = _
            unfold decB
            rw [HAll.out, hhd, beq_false_of_ne hz]
            have hne : (l != []) = true := by simp [he]
            rw [hne, Bool.true_and, Bool.false_or, Bool.true_and]
            by_cases e : x = 48
            · have : S[0]'hkz = 48 := by apply UInt8.toNat_inj.1; rw [hx, e]; rfl
              rw [this, e]; decide
            · have : S[0]'hkz ≠ 48 := by intro e2; apply e; rw [← hx, e2]; rfl
              simp [this, e]
          clear hSl hz he hhd hx
          by_cases hx : x = 48
          · subst hx
            have hk1 : (0 : Int) < (k : Int) := by omega
            go_wp2_with fail
            go_ret
            refine ⟨?_, rfl⟩
            rw [HR.out]
            show Ending.returned (Value.bool (S.toList == [48])) = _
            rw [beq_false_of_ne h1]; rfl
          · have hxi : ¬ (x : Int) = 48 := by omega
            have hk1 : (0 : Int) < (k : Int) := by omega
            go_wp2_with fail
            go_ret
            refine ⟨?_, rfl⟩
            rw [HR.out]
            show Ending.returned (Value.bool (S.toList == [48] || !S.toList.isEmpty && (x : Int) != 48)) = _
            have e4 : S.toList.isEmpty = false := by simp [h2]
            have e5 : ((x : Int) != 48) = true := by simp [hxi]
            rw [beq_false_of_ne h1, e4, e5]; simp [hx]
end Go.Proofs.YtlnphamgmicniaaGreatDoor
