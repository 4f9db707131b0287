/- Reading decimal digits: a whole text. -/
import Derived.Test.YtlnphamgmicniaaGreatDoorPra
namespace Go.Proofs.YtlnphamgmicniaaGreatDoor
open Go.RowKit

def bs (l : List UInt8) : ByteArray := ⟨l.toArray⟩
def valD (l : List UInt8) : Nat := l.foldl (fun a c => a * 10 + (c.toNat - 48)) 0
def isDig (c : UInt8) : Prop := 48 ≤ c.toNat ∧ c.toNat ≤ 57
def ssz : Value → Nat
  | .string s => s.size
  | _ => 0
theorem bs_size (l : List UInt8) : (bs l).size = l.length := by simp [bs, ByteArray.size]
theorem bs_list (l : List UInt8) : (bs l).data.toList = l := by simp [bs]
theorem bs_toList (l : List UInt8) : (bs l).toList = l := by rw [ByteArray.toList_eq]; exact bs_list l
theorem bs_extract (l : List UInt8) (i n : Nat) (h : l.length = n) : (bs l).extract i n = bs (l.drop i) := by
  apply ByteArray.ext
  simp only [bs, ByteArray.data_extract]
  simp [h, List.take_of_length_le]
theorem valD_snoc (l : List UInt8) (c : UInt8) : valD (l ++ [c]) = valD l * 10 + (c.toNat - 48) := by unfold valD; rw [List.foldl_append]; rfl
theorem valD_app (a : List UInt8) : ∀ b, valD (a ++ b) = valD a * 10 ^ b.length + valD b := by
  have key : ∀ (b : List UInt8) (x : Nat), b.foldl (fun a c => a * 10 + (c.toNat - 48)) x = x * 10 ^ b.length + b.foldl (fun a c => a * 10 + (c.toNat - 48)) 0 := by
    intro b
    induction b with
    | nil => intro x; simp
    | cons c b ih =>
      intro x
      rw [List.foldl_cons, List.foldl_cons, ih (x * 10 + (c.toNat - 48)), ih (0 * 10 + (c.toNat - 48)), List.length_cons, Nat.pow_succ]
      grind
  intro b
  unfold valD; rw [List.foldl_append]; exact key b _
theorem valD_lt : ∀ (l : List UInt8), (∀ c ∈ l, isDig c) → valD l < 10 ^ l.length := by
  have key : ∀ n (l : List UInt8), l.length = n → (∀ c ∈ l, isDig c) → valD l < 10 ^ l.length := by
    intro n
    induction n with
    | zero => intro l h _; rw [List.length_eq_zero_iff.1 h]; decide
    | succ n ih =>
      intro l h hd
      obtain ⟨a, c, rfl⟩ : ∃ a c, l = a ++ [c] := ⟨l.dropLast, l.getLast (by intro e; rw [e] at h; cases h), (List.dropLast_concat_getLast _).symm⟩
      have h1 := ih a (by simpa using h) (fun c hc => hd c (by simp [hc]))
      have h2 := hd c (by simp)
      have e := valD_snoc a c
      have h3 := h2.1; have h4 := h2.2
      rw [e, List.length_append, List.length_singleton, Nat.pow_succ]
      generalize 10 ^ a.length = T at *
      omega
  exact fun l => key _ l rfl

set_option maxRecDepth 100000 in
set_option maxHeartbeats 4000000 in
theorem ofdec_any (l : List UInt8) (w : World) (hd : ∀ c ∈ l, isDig c) (hn : l.length ≤ 200000) :
    Calls Tryz.prog 68 #[.string (bs l)] w (NatRes (valD l) w) := by
  have HD := Lib.hid hd; clear hd
  obtain ⟨n, hne⟩ : ∃ n, l.length = n := ⟨_, rfl⟩
  rw [hne] at hn
  have HN := Lib.hid hne; clear hne
  go_enter Tryz.func68, Tryz.ntmps68
  go_wp2_with fail
  go_loopw [0, 3] (fun s0 s3 wr => ∃ (k : Nat) (A : Option Addr) (c : Nat), k ≤ n ∧ s0 = .string (bs (l.drop k)) ∧ s3 = .slice A (len (valD (l.take k))) c ∧ (k = 0 ∨ (n - k) % 9 = 0) ∧ Hid (On wr w.heap.size A (len (valD (l.take k))) c (dg (valD (l.take k)))) ∧ Hid (Ext w wr)) (fun s0 _ _ => ssz s0)
  case atStart => exact ⟨0, none, 0, Nat.zero_le _, by rw [List.drop_zero], by rw [List.take_zero, show valD [] = 0 from rfl, len_zero], .inl rfl, by rw [List.take_zero, show valD [] = 0 from rfl, len_zero]; exact On.nil _ _ _, Ext.refl _⟩
  case round =>
    obtain ⟨k, A, c, hk, rfl, rfl, h9, hO, hX⟩ := hrel
    by_cases hlt : k < n
    · obtain ⟨S, hS⟩ : ∃ S, bs (l.drop k) = S := ⟨_, rfl⟩
      obtain ⟨q, hq⟩ : ∃ q, n - k = q := ⟨_, rfl⟩
      have hsz : S.size = q := by rw [← hS, bs_size, List.length_drop, HN.out, hq]
      have hem : S.toList.isEmpty = false := by
        rw [← hS, bs_toList]
        cases h : l.drop k with
        | nil => exfalso; have := congrArg List.length h; rw [List.length_drop, HN.out] at this; simp at this; omega
        | cons _ _ => simp
      obtain ⟨nn, hnn⟩ : ∃ nn, (q - 1) % 9 + 1 = nn := ⟨_, rfl⟩
      have hnn9 : nn ≤ 9 := by omega
      have hnq : nn ≤ q := by omega
      obtain ⟨p, rfl⟩ : ∃ p, q = p + 1 := ⟨q - 1, by omega⟩
      have e1 : ((p + 1 : Nat) : Int) - 1 = (p : Int) := by omega
      have e2 : wrap64 ((wrap64 (p : Int)).tmod 9 + 1) = (nn : Int) := by
        have w1 : wrap64 (p : Int) = p := by unfold wrap64; omega
        rw [w1, Int.tmod_eq_emod_of_nonneg (by omega)]; unfold wrap64; omega
      rw [hS]
      have HS := Lib.hid hS
      have HQ := Lib.hid hq
      have HNN := Lib.hid hnn
      clear hq hS hnn
      go_wp2_with fail
      simp only [e2]
      go_loopw [5, 15] (fun s5 s15 wq => wr = wq ∧ ∃ (i gv : Nat), i ≤ nn ∧ s15 = I i ∧ s5 = U8 gv ∧ gv < 1000000000 ∧ Hid (gv = valD ((l.drop k).take i))) (fun _ s15 _ => nn - (intOf s15).toNat)
      case atStart => exact ⟨rfl, 0, 0, Nat.zero_le _, rfl, rfl, by omega, by show _ = _; rw [List.take_zero]; rfl⟩
      case round =>
        obtain ⟨rfl, i, gv, hi, rfl, rfl, hgv, hg⟩ := hrel
        by_cases hlti : i < nn
        · have hi1 : (i : Int) < (nn : Int) := by omega
          have hiS : (i : Int) < ((p + 1 : Nat) : Int) := by omega
          have hiz : i < S.size := by omega
          have hdq : (l.drop k).length = p + 1 := by rw [List.length_drop, HN.out, HQ.out]
          have hidr : i < (l.drop k).length := by omega
          obtain ⟨ch, hch⟩ : ∃ ch, (l.drop k)[i]'hidr = ch := ⟨_, rfl⟩
          have hSi : S[i]'hiz = ch := by
            have : (bs (l.drop k))[i]'(by rw [bs_size]; exact hidr) = ch := by rw [← hch]; rfl
            rw [← this]; congr 1; exact HS.out.symm
          have hdc : isDig ch := HD.out ch (by rw [← hch]; exact List.mem_of_mem_drop (List.getElem_mem _))
          have hst : valD ((l.drop k).take (i + 1)) = gv * 10 + (ch.toNat - 48) := by rw [List.take_succ_eq_append_getElem hidr, valD_snoc, hch, hg.out]
          have hlt2 : valD ((l.drop k).take (i + 1)) < 10 ^ (i + 1) := by
            have := valD_lt ((l.drop k).take (i + 1)) (fun c hc => HD.out c (List.mem_of_mem_drop (List.mem_of_mem_take hc)))
            rwa [List.length_take, Nat.min_eq_left (by omega)] at this
          have hlt3 : 10 ^ (i + 1) ≤ 10 ^ 9 := Nat.pow_le_pow_right (by omega) (by omega)
          rw [hst] at hlt2
          have hd1 := hdc.1; have hd2 := hdc.2
          have HST := Lib.hid hst
          have HLT : Hid (gv * 10 + (ch.toNat - 48) < 1000000000) := Nat.lt_of_lt_of_le hlt2 hlt3
          have HD1 := Lib.hid hd1; have HD2 := Lib.hid hd2
          have HSI := Lib.hid hSi
          clear hst hlt2 hlt3 hd1 hd2 hdc hch hidr hdq hSi
          go_wp2_with fail
          rw [HSI.out]
          have hcI : ((ch.toNat : Int) - 48) % 256 = ((ch.toNat - 48 : Nat) : Int) := by have := HD1.out; have := HD2.out; omega
          rw [hcI]
          go_roundw
          case rel => exact ⟨trivial, i + 1, gv * 10 + (ch.toNat - 48), by omega, by go_num, by go_num, HLT.out, HST.out.symm⟩
          case measure => simp [intOf]; omega
        · have hin : i = nn := by omega
          subst hin
          have hvk : valD (l.take k) < 10 ^ k := by
            have := valD_lt (l.take k) (fun c hc => HD.out c (List.mem_of_mem_take hc))
            rwa [List.length_take, Nat.min_eq_left (by rw [HN.out]; omega)] at this
          have hvl : len (valD (l.take k)) ≤ 1048576 := by
            have h1 : valD (l.take k) < pB k := Nat.lt_of_lt_of_le hvk (Nat.pow_le_pow_left (by omega) k)
            have := len_le h1
            omega
          have hval : valD (l.take (k + i)) = valD (l.take k) * 1000000000 + gv := by
            rw [List.take_add, valD_app, ← hg.out]
            have hlen : ((l.drop k).take i).length = i := by rw [List.length_take, List.length_drop, HN.out, HQ.out]; omega
            rw [hlen]
            rcases h9 with rfl | h9
            · rw [List.take_zero, show valD [] = 0 from rfl]; simp
            · have := HNN.out; have := HQ.out
              obtain rfl : i = 9 := by omega
              rfl
          have GA := Lib.hid (group_any w.heap.size A (valD (l.take k)) gv c wr hO.out hgv hvl hX.out.size)
          have HVAL := Lib.hid hval
          clear hvk hvl hval
          go_wp2_with (first
            | (go_at_call 113; (with_reducible refine (GA.out).mono ?_); rintro e w5 ⟨A2, c2, rfl, hO2, hB2⟩; have HO2 := Lib.hid hO2; have HB2 := Lib.hid hB2; clear hO2 hB2))
          have hQ := HQ.out; have hNN := HNN.out
          have hex : S.extract i (p + 1) = bs (l.drop (k + i)) := by
            rw [← HS.out, bs_extract _ _ _ (by rw [List.length_drop, HN.out, HQ.out]), List.drop_drop]
          rw [hex]
          refine ⟨⟨k + i, A2, c2, by omega, rfl, by rw [HVAL.out], .inr (by omega), by rw [HVAL.out]; exact HO2, Below.trans hX.out HB2.out⟩, ?_⟩
          simp only [ssz]
          rw [bs_size, List.length_drop, HN.out, hsz]; omega
    · obtain rfl : k = n := by omega
      have hS : bs (l.drop k) = bs [] := by rw [List.drop_of_length_le (by rw [HN.out]; exact Nat.le_refl _)]
      have hT : l.take k = l := List.take_of_length_le (by rw [HN.out]; exact Nat.le_refl _)
      have hem : (bs []).toList.isEmpty = true := by rw [bs_toList]; rfl
      have hOo := hO.out
      rw [hT] at hOo
      rw [hS, hT]
      have HO := Lib.hid hOo
      clear hO hOo
      go_wp2_with fail
      go_ret
      exact ⟨A, c, rfl, HO.out, hX.out⟩
end Go.Proofs.YtlnphamgmicniaaGreatDoor
