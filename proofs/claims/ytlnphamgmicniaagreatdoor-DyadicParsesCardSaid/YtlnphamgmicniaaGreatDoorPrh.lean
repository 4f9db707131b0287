/- A decimal text is the text of its number. Plain mathematics. -/
import Derived.Test.YtlnphamgmicniaaGreatDoorPre
namespace Go.Proofs.YtlnphamgmicniaaGreatDoor
open Go.RowKit

theorem chr_back {c : UInt8} (h : isDig c) : UInt8.ofNat (48 + (c.toNat - 48)) = c := by
  have h1 := h.1
  rw [show 48 + (c.toNat - 48) = c.toNat by omega]
  exact UInt8.ofNat_toNat
theorem dec_back_aux : ∀ (n : Nat) (l : List UInt8), l.length = n + 1 → (∀ c ∈ l, isDig c) → l.head? ≠ some 48 → Lib.decDigits (valD l) = l
  | 0, l, hl, hd, hh => by
    match l, hl with
    | [c], _ =>
      have hc := hd c (by simp)
      have e : valD [c] = c.toNat - 48 := by unfold valD; simp
      have h1 := hc.1; have h2 := hc.2
      rw [e, dec_small (by omega), chr_back hc]
  | n + 1, l, hl, hd, hh => by
    obtain ⟨a, c, rfl⟩ : ∃ a c, l = a ++ [c] := ⟨l.dropLast, l.getLast (by intro e; rw [e] at hl; cases hl), (List.dropLast_concat_getLast _).symm⟩
    have hla : a.length = n + 1 := by simpa using hl
    have hha : a.head? ≠ some 48 := by
      cases a with
      | nil => simp at hla
      | cons x r => simpa using hh
    have ih := dec_back_aux n a hla (fun c hc => hd c (by simp [hc])) hha
    have hc := hd c (by simp)
    have h1 := hc.1; have h2 := hc.2
    have hpos : 0 < valD a := by
      rcases Nat.eq_zero_or_pos (valD a) with h | h
      · rw [h, dec_small (by omega)] at ih
        exfalso; apply hha; rw [← ih]; rfl
      · exact h
    rw [valD_snoc, dec_big (by omega), show (valD a * 10 + (c.toNat - 48)) / 10 = valD a by omega, show (valD a * 10 + (c.toNat - 48)) % 10 = c.toNat - 48 by omega, ih, chr_back hc]
/-- A decimal text is what its number is written as. -/
theorem dec_back {l : List UInt8} (h : decB l = true) : Lib.decDigits (valD l) = l := by
  have hd := decB_digs h
  unfold decB at h
  rw [Bool.and_eq_true, Bool.or_eq_true, Bool.and_eq_true] at h
  rcases h.2 with h1 | ⟨h1, h2⟩
  · have : l = [48] := by simpa using h1
    rw [this, show valD [48] = 0 from rfl, dec_small (by omega)]; rfl
  · have hne : l ≠ [] := by simpa using h1
    obtain ⟨n, hn⟩ : ∃ n, l.length = n + 1 := ⟨l.length - 1, by have := List.length_pos_iff.2 hne; omega⟩
    exact dec_back_aux n l hn hd (by simpa using h2)
end Go.Proofs.YtlnphamgmicniaaGreatDoor
