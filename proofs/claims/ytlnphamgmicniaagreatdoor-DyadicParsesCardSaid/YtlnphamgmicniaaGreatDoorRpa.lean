/- The reference's Parse at any text. -/
import Derived.Test.YtlnphamgmicniaaGreatDoorPrg
import Derived.Test.YtlnphamgmicniaaGreatDoorPrj
import Derived.Test.YtlnphamgmicniaaGreatDoorRtx
import Derived.Deep.DeepCutAuto
namespace Go.Proofs.YtlnphamgmicniaaGreatDoor
open Go.RowKit

theorem bs_ext (l : List UInt8) (i j : Nat) : (bs l).extract i j = bs ((l.take j).drop i) := by
  apply ByteArray.ext
  apply Array.ext'
  simp [bs, ByteArray.data_extract, List.extract_eq_take_drop, List.drop_take]
theorem bs_inj {a b : List UInt8} (h : bs a = bs b) : a = b := by have := congrArg (fun s => s.data.toList) h; simpa [bs_list] using this
theorem occ_no {s : List UInt8} {k : Nat} (h : Lib.occAt s [47, 50, 94] k = false) : ¬ (bs s).extract k (k + 3) = bs [47, 50, 94] := by
  intro e
  rw [bs_ext] at e
  have e2 := bs_inj e
  have h2 : List.isPrefixOf [47, 50, 94] (s.drop k) = true := by
    rw [List.isPrefixOf_iff_prefix, ← e2, List.drop_take]
    exact List.take_prefix _ _
  have h3 : List.isPrefixOf [47, 50, 94] (s.drop k) = false := h
  rw [h2] at h3; cases h3
theorem occ_yes {s : List UInt8} {k : Nat} (h : Lib.occAt s [47, 50, 94] k = true) : (bs s).extract k (k + 3) = bs [47, 50, 94] ∧ k + 3 ≤ s.length := by
  obtain ⟨r, hr⟩ := List.isPrefixOf_iff_prefix.1 (show List.isPrefixOf [47, 50, 94] (s.drop k) = true from h)
  have h2 : (s.drop k).length = 3 + r.length := by rw [← hr]; simp; omega
  rw [List.length_drop] at h2
  refine ⟨?_, by omega⟩
  rw [bs_ext, List.drop_take, ← hr, show k + 3 - k = 3 by omega]; rfl
/-- Where the power begins; nowhere. -/
theorem tx_at (l : List UInt8) : ((txOf l).fr = false ∧ (txOf l).body = Lib.trimPrefix l [45] ∧ ∀ k, k + 2 < (Lib.trimPrefix l [45]).length → ¬ (bs (Lib.trimPrefix l [45])).extract k (k + 3) = bs [47, 50, 94]) ∨
    (∃ i : Nat, (txOf l).fr = true ∧ (bs (Lib.trimPrefix l [45])).extract 0 i = bs (txOf l).body ∧ (bs (Lib.trimPrefix l [45])).extract (i + 3) (Lib.trimPrefix l [45]).length = bs (txOf l).pow ∧
      (bs (Lib.trimPrefix l [45])).extract i (i + 3) = bs [47, 50, 94] ∧ i + 3 ≤ (Lib.trimPrefix l [45]).length ∧ ∀ k, k < i → ¬ (bs (Lib.trimPrefix l [45])).extract k (k + 3) = bs [47, 50, 94]) := by
  show ((Lib.cut (Lib.trimPrefix l [45]) [47, 50, 94]).2.2 = false ∧ (Lib.cut (Lib.trimPrefix l [45]) [47, 50, 94]).1 = _ ∧ _) ∨ (∃ i : Nat, (Lib.cut (Lib.trimPrefix l [45]) [47, 50, 94]).2.2 = true ∧ _ = bs (Lib.cut (Lib.trimPrefix l [45]) [47, 50, 94]).1 ∧ _ = bs (Lib.cut (Lib.trimPrefix l [45]) [47, 50, 94]).2.1 ∧ _)
  generalize Lib.trimPrefix l [45] = s
  rcases Lib.index_spec s [47, 50, 94] with ⟨h, hn⟩ | ⟨i, h, hi, ho, hn⟩
  · left
    unfold Lib.cut; rw [h, if_neg (by decide)]
    exact ⟨rfl, rfl, fun k hk => occ_no (hn k (by omega))⟩
  · right
    unfold Lib.cut; rw [h, if_pos (by omega)]
    obtain ⟨h1, h2⟩ := occ_yes ho
    refine ⟨i, rfl, ?_, ?_, h1, h2, fun k hk => occ_no (hn k hk)⟩
    · rw [bs_ext]; simp
    · rw [bs_ext, List.take_length]; simp
/-- The power is none, or one digit of 32 bits of at most 65536. -/
def TX.powR (t : TX) : Prop := t.fr = true → decB t.pow = true ∧ 0 < valD t.pow ∧ valD t.pow ≤ 65536
/-- What the reference's Parse answers. -/
def RParseRes (ok : Bool) (neg : Bool) (m : Nat) (den : Nat) (w : World) (e : Ending) (w' : World) : Prop :=
  Ext w w' ∧ ((ok = true ∧ ∃ A c, e = .returned (.tuple #[dv neg A (len m) c den, I 0]) ∧ On w' w.heap.size A (len m) c (dg m)) ∨ (ok = false ∧ e = .returned (.tuple #[dv false none 0 0 0, I 2])))
theorem lens (l : List UInt8) : (txOf l).body.length ≤ l.length ∧ (txOf l).pow.length ≤ l.length ∧ (Lib.trimPrefix l [45]).length ≤ l.length := ⟨(cut_len l).1, (cut_len l).2, trim_len l⟩
/-- The sign, as the reference takes it off. -/
theorem sign_at (l : List UInt8) : (l = [] ∧ Lib.trimPrefix l [45] = l ∧ (txOf l).neg = false) ∨ (∃ h : 0 < (bs l).size, ((bs l)[0]'h).toNat ≠ 45 ∧ Lib.trimPrefix l [45] = l ∧ (txOf l).neg = false) ∨
    (∃ h : 0 < (bs l).size, ((bs l)[0]'h).toNat = 45 ∧ (bs l).extract 1 (bs l).size = bs (Lib.trimPrefix l [45]) ∧ (txOf l).neg = true) := by
  cases l with
  | nil => left; exact ⟨rfl, rfl, rfl⟩
  | cons a r =>
    right
    have hz : 0 < (bs (a :: r)).size := by rw [bs_size]; simp
    have h0 : (bs (a :: r))[0]'hz = a := rfl
    by_cases h : a = 45
    · right
      subst h
      refine ⟨hz, by rw [h0]; rfl, ?_, rfl⟩
      rw [bs_extract _ _ _ (bs_size _).symm]; rfl
    · left
      have hp : Lib.hasPrefix (a :: r) [45] = false := by
        show List.isPrefixOf [45] (a :: r) = false
        simp [List.isPrefixOf]
        exact fun e => h e.symm
      refine ⟨hz, by rw [h0]; intro e; exact h (UInt8.toNat_inj.1 e), ?_, hp⟩
      unfold Lib.trimPrefix; rw [hp]; simp


theorem ok_of_vld {d : DV} (h : vld d.neg (len d.m) (dg d.m) d.den = true) : d.ok := by
  unfold DV.ok
  cases hn : len d.m with
  | zero =>
    have hm : d.m = 0 := len_eq_zero.1 hn
    rw [hn, vld_zero] at h
    simp at h
    exact ⟨fun _ => ⟨h.1, by omega⟩, by omega, fun h0 => by omega⟩
  | succ n =>
    rw [hn, vld_succ] at h
    simp at h
    have hm : d.m ≠ 0 := fun e => by rw [len_eq_zero.2 e] at hn; cases hn
    obtain ⟨⟨_, h2⟩, h3⟩ := h
    refine ⟨fun e => absurd e hm, by omega, fun h0 => ?_⟩
    rcases h3 with h3 | h3
    · omega
    · rw [dg_zero] at h3; omega


theorem slice3 (S : ByteArray) (k : Nat) (h : k + 3 ≤ S.size) : ∀ wx, (Instr.slice 9 (.string S) (some (I (k : Int))) (some (I ((k : Int) + 3))) none).run Tryz.prog wx = .ok (.string (S.extract k (k + 3))) wx := fun wx => by
  have := run_slice_string (P := Tryz.prog) wx 9 S .i64 .i64 (k : Int) ((k : Int) + 3) Tryz.underlying9 (by omega) (by omega) (by omega)
  rw [show ((k : Int) + 3).toNat = k + 3 by omega, Int.toNat_natCast] at this; exact this


theorem bs_back (S : ByteArray) : bs S.toList = S := by apply ByteArray.ext; rw [ByteArray.toList_eq]; simp [bs]
theorem eq3_no {S : ByteArray} (h : ¬ S = bs [47, 50, 94]) : (S.toList == [47, 50, 94]) = false := beq_false_of_ne fun e => h (by rw [← e, bs_back])
theorem eq3_yes {S : ByteArray} (h : S = bs [47, 50, 94]) : (S.toList == [47, 50, 94]) = true := by rw [h, bs_toList]; rfl


theorem ne_nil {s : ByteArray} (h : 0 < s.size) : ¬ s.toList = [] ∧ s.toList.isEmpty = false := by
  have e : s.toList.length = s.size := by rw [ByteArray.toList_eq]; exact Array.length_toList
  have h1 : ¬ s.toList = [] := fun e2 => by rw [e2] at e; simp at e; omega
  exact ⟨h1, by simp [h1]⟩


set_option maxRecDepth 100000 in
set_option maxHeartbeats 4000000 in
theorem rparse_nopow (l : List UInt8) (w : World) (hl : l.length ≤ 65536) (hp : ¬ (txOf l).powR) : Calls Tryz.prog 9 #[.string (bs l)] w (RParseRes false (txOf l).neg (valD (txOf l).body) (txOf l).den w) := by
  have hf : (txOf l).fr = true := by
    cases h : (txOf l).fr with
    | true => rfl
    | false => exact absurd (fun h' => by rw [h] at h'; cases h') hp
  have hp2 : ¬ (decB (txOf l).pow = true ∧ 0 < valD (txOf l).pow ∧ valD (txOf l).pow ≤ 65536) := fun h => hp (fun _ => h)
  obtain ⟨hl1, hl2, hl3⟩ := lens l
  have hs1 : (bs l).size ≤ 65536 := by rw [bs_size]; exact hl
  have hs2 : (bs (Lib.trimPrefix l [45])).size = (Lib.trimPrefix l [45]).length := bs_size _
  have HSG := Lib.hid (sign_at l)
  obtain ⟨i, k1, k2, k3, k5, k6⟩ : ∃ i : Nat, (bs (Lib.trimPrefix l [45])).extract 0 i = bs (txOf l).body ∧ (bs (Lib.trimPrefix l [45])).extract (i + 3) (Lib.trimPrefix l [45]).length = bs (txOf l).pow ∧
      (bs (Lib.trimPrefix l [45])).extract i (i + 3) = bs [47, 50, 94] ∧ i + 3 ≤ (Lib.trimPrefix l [45]).length ∧ ∀ k, k < i → ¬ (bs (Lib.trimPrefix l [45])).extract k (k + 3) = bs [47, 50, 94] := by
    rcases tx_at l with ⟨h, _⟩ | ⟨i, _, h2⟩
    · rw [hf] at h; cases h
    · exact ⟨i, h2⟩
  have HGP := Lib.hid (fun w' => rdig_any (txOf l).pow w' (by omega))
  have HC : Hid (decB (txOf l).pow = false ∨ (decB (txOf l).pow = true ∧ ¬ len (valD (txOf l).pow) = 1) ∨ (decB (txOf l).pow = true ∧ len (valD (txOf l).pow) = 1 ∧ 65536 < valD (txOf l).pow)) := by
    show _ ∨ _ ∨ _
    cases hd : decB (txOf l).pow with
    | false => exact .inl rfl
    | true =>
      right
      by_cases h1 : len (valD (txOf l).pow) = 1
      · right
        have : valD (txOf l).pow ≠ 0 := fun e => by rw [len_eq_zero.2 e] at h1; cases h1
        exact ⟨rfl, h1, Nat.lt_of_not_le fun h2 => hp2 ⟨hd, by omega, h2⟩⟩
      · exact .inl ⟨rfl, h1⟩
  clear hp2
  obtain ⟨S1, e1⟩ : ∃ S, bs l = S := ⟨_, rfl⟩
  rw [e1] at hs1 ⊢
  obtain ⟨S2, e2⟩ : ∃ S, bs (Lib.trimPrefix l [45]) = S := ⟨_, rfl⟩
  rw [e2] at hs2
  have HSG2 : Hid ((S1 = bs [] ∧ S2 = S1 ∧ (txOf l).neg = false) ∨ (∃ h : 0 < S1.size, ¬ ((S1[0]'h).toNat : Int) = 45 ∧ S2 = S1 ∧ (txOf l).neg = false) ∨ (∃ h : 0 < S1.size, ((S1[0]'h).toNat : Int) = 45 ∧ S1.extract 1 S1.size = S2 ∧ (txOf l).neg = true)) := by
    subst e1 e2
    rcases HSG.out with ⟨h, h2, h3⟩ | ⟨h, h1, h2, h3⟩ | ⟨h, h1, h2, h3⟩
    · exact .inl ⟨by rw [h], by rw [h2], h3⟩
    · exact .inr (.inl ⟨h, by omega, by rw [h2], h3⟩)
    · exact .inr (.inr ⟨h, by omega, h2, h3⟩)
  clear HSG
  rw [e2] at k1 k2 k3 k6
  obtain ⟨n, hn⟩ : ∃ n, (Lib.trimPrefix l [45]).length = n := ⟨_, rfl⟩
  rw [hn] at hs2 k2 k5 hl3
  clear e1 e2 hn
  generalize txOf l = t at *
  generalize hng : t.neg = ng at *
  clear hng
  obtain ⟨S3, e3⟩ : ∃ S, bs t.body = S := ⟨_, rfl⟩
  obtain ⟨S4, e4⟩ : ∃ S, bs t.pow = S := ⟨_, rfl⟩
  rw [e3] at k1
  rw [e4] at HGP k2
  have hs3 : S1.size ≤ 65536 := by omega
  clear hs1 hl1 hl2 hp hf e3 e4
  have B0 := Lib.hid (Bx.new w (.bool false) (.slice none 0 0) (I 0) 25)
  have X0 := Lib.hid (Ext.alloc w (.cells #[.bool false, .slice none 0 0, I 0] 25))
  have K6 := Lib.hid k6; clear k6
  have hs2' : (S2.size : Int) = n := by omega
  go_enter Tryz.func9, Tryz.ntmps9
  go_upto_region 4 with fail
  go_cut [4, 5, 24] (fun s4 s5 s24 wx => s4 = .string S1 ∧ s5 = .bool false ∧ s24 = .bool ng ∧ wx = w.alloc (.cells #[.bool false, .slice none 0 0, I 0] 25))
  case first =>
    clear B0 X0
    rcases HSG2.out with ⟨h, h2, h3⟩ | ⟨h, h1, h2, h3⟩ | ⟨h, h1, h2, h3⟩
    · have hne : S1.toList = [] := by rw [h, bs_toList]
      have hem : S1.toList.isEmpty = true := by rw [hne]; rfl
      clear h h2 HSG2
      go_wp2_with fail
      go_meet
      exact ⟨rfl, rfl, by rw [h3], rfl⟩
    · obtain ⟨hne, hem⟩ := ne_nil h
      have h4 : (0 : Int) < S1.size := by omega
      clear h2 HSG2
      go_wp2_with fail
      go_meet
      exact ⟨rfl, rfl, by rw [h3, beq_false_of_ne h1], rfl⟩
    · obtain ⟨hne, hem⟩ := ne_nil h
      have h4 : (0 : Int) < S1.size := by omega
      clear h2 HSG2
      go_wp2_with fail
      go_meet
      exact ⟨rfl, rfl, by rw [h3], rfl⟩
  case rest =>
    obtain ⟨rfl, rfl, rfl, rfl⟩ := hcut
    have HS3 : (ng = false ∧ S2 = S1) ∨ (ng = true ∧ S1.extract 1 S1.size = S2 ∧ 0 < S1.size) := by
      rcases HSG2.out with ⟨_, h2, h3⟩ | ⟨_, _, h2, h3⟩ | ⟨h, _, h2, h3⟩
      · exact .inl ⟨h3, h2⟩
      · exact .inl ⟨h3, h2⟩
      · exact .inr ⟨h3, h2, h⟩
    clear HSG2
    generalize w.alloc (.cells #[.bool false, .slice none 0 0, I 0] 25) = w0 at *
    rcases HS3 with ⟨h3, h2⟩ | ⟨h3, h2, h4⟩
    · subst h2
      subst h3
      go_wp2_with fail
      go_loopw [4, 6, 7] (fun s4 s6 c wr => w0 = wr ∧ s4 = .string S2 ∧ s6 = I 0 ∧ ∃ k : Nat, k ≤ i ∧ c = I k) (fun _ _ c _ => i - (intOf c).toNat)
      case atStart => exact ⟨rfl, rfl, rfl, 0, Nat.zero_le _, rfl⟩
      case round =>
        obtain ⟨rfl, rfl, rfl, k, hk, rfl⟩ := hrel
        have hlt2 : (k : Int) + 2 < (n : Int) := by omega
        have hsl := slice3 S2 k (by omega)
        by_cases hlt : k < i
        · have hne := eq3_no (K6.out k hlt)
          go_wp2_with fail
          go_roundw
          case rel => exact ⟨trivial, rfl, rfl, k + 1, by omega, by go_num⟩
          case measure => simp [intOf]; omega
        · obtain rfl : k = i := by omega
          have hne := eq3_yes k3
          clear k3
          rcases HC.out with h | ⟨h, h1⟩ | ⟨h, h1, h2⟩
          · have hpv : decV t.pow = 0 := by unfold decV; rw [h]; rfl
            have HGQ : Hid (∀ w', Calls Tryz.prog 70 #[.string S4] w' fun e w'' => ∃ A c, e = .returned (.tuple #[.slice A 0 c, .bool false]) ∧ Ext w' w'') := fun w' => (HGP.out w').mono fun e w'' hh => by
              obtain ⟨A, c, he, _, hx⟩ := hh
              rw [h, hpv, len_zero] at he
              exact ⟨A, c, he, hx⟩
            clear HGP h hpv HC
            go_wp2_with (first
              | (go_at_call 70; (with_reducible refine (HGQ.out _).mono ?_); rintro e wp ⟨Ap, cp, rfl, hx⟩; have XP := Lib.hid hx; obtain ⟨⟨r0, r1, r2⟩, rz⟩ := B0.out.ext hx; clear hx))
            refine bodyPost_ret (v := .tuple #[dv false none 0 0 0, I 2]) (by simp [results, Tryz.results9, go_sem, r0, r1, r2]) rfl ⟨ext_set3 (X0.out.trans XP.out) (Nat.le_refl _) _ _ _, .inr ⟨rfl, rfl⟩⟩
          · have hpv : decV t.pow = valD t.pow := by unfold decV; rw [h]; rfl
            have HGQ : Hid (∀ w', Calls Tryz.prog 70 #[.string S4] w' fun e w'' => ∃ A c, e = .returned (.tuple #[.slice A (len (valD t.pow)) c, .bool true]) ∧ Ext w' w'') := fun w' => (HGP.out w').mono fun e w'' hh => by
              obtain ⟨A, c, he, _, hx⟩ := hh
              rw [h, hpv] at he
              exact ⟨A, c, he, hx⟩
            clear HGP h hpv HC
            have h1' : ¬ (len (valD t.pow) : Int) = 1 := by omega
            generalize len (valD t.pow) = L at *
            go_wp2_with (first
              | (go_at_call 70; (with_reducible refine (HGQ.out _).mono ?_); rintro e wp ⟨Ap, cp, rfl, hx⟩; have XP := Lib.hid hx; obtain ⟨⟨r0, r1, r2⟩, rz⟩ := B0.out.ext hx; clear hx))
            refine bodyPost_ret (v := .tuple #[dv false none 0 0 0, I 2]) (by simp [results, Tryz.results9, go_sem, r0, r1, r2]) rfl ⟨ext_set3 (X0.out.trans XP.out) (Nat.le_refl _) _ _ _, .inr ⟨rfl, rfl⟩⟩
          · have hpv : decV t.pow = valD t.pow := by unfold decV; rw [h]; rfl
            have hlt1 : valD t.pow < 4294967296 := by have := lt_pB_len (valD t.pow); rw [h1] at this; have e : pB 1 = 4294967296 := by decide
                                                      omega
            have HGQ : Hid (∀ w', Calls Tryz.prog 70 #[.string S4] w' fun e w'' => ∃ b o c, e = .returned (.tuple #[.slice (some ⟨b, o, none⟩) 1 c, .bool true]) ∧ b < w''.heap.size ∧ w''.cell? ⟨b, o, none⟩ = some (U4 (valD t.pow)) ∧ Ext w' w'') := fun w' => (HGP.out w').mono fun e w'' hh => by
              obtain ⟨A, c, he, hon, hx⟩ := hh
              rw [h, hpv, h1] at he
              rw [hpv, h1] at hon
              obtain ⟨b, o, rfl, hb, hc⟩ := hon.rd.at_ (k := 0) (by omega)
              rw [dg_zero, Nat.mod_eq_of_lt hlt1, Nat.add_zero] at hc
              exact ⟨b, o, c, he, hb, hc, hx⟩
            clear HGP h hpv HC h1
            have h2' : (65536 : Int) < (valD t.pow : Int) := by omega
            generalize valD t.pow = q at *
            go_wp2_with (first
              | (go_at_call 70; (with_reducible refine (HGQ.out _).mono ?_); rintro e wp ⟨bp, op, cp, rfl, hbp, cp0, hx⟩; have XP := Lib.hid hx; obtain ⟨⟨r0, r1, r2⟩, rz⟩ := B0.out.ext hx; clear hx))
            refine bodyPost_ret (v := .tuple #[dv false none 0 0 0, I 2]) (by simp [results, Tryz.results9, go_sem, r0, r1, r2]) rfl ⟨ext_set3 (X0.out.trans XP.out) (Nat.le_refl _) _ _ _, .inr ⟨rfl, rfl⟩⟩
    · subst h3
      have h5 : (1 : Int) ≤ S1.size := by omega
      have hs9 : (S1.size : Int) ≤ 65536 := by omega
      go_wp2_with fail
      clear h2 h4 h5
      go_loopw [4, 6, 7] (fun s4 s6 c wr => w0 = wr ∧ s4 = .string S2 ∧ s6 = I 0 ∧ ∃ k : Nat, k ≤ i ∧ c = I k) (fun _ _ c _ => i - (intOf c).toNat)
      case atStart => exact ⟨rfl, rfl, rfl, 0, Nat.zero_le _, rfl⟩
      case round =>
        obtain ⟨rfl, rfl, rfl, k, hk, rfl⟩ := hrel
        have hlt2 : (k : Int) + 2 < (n : Int) := by omega
        have hsl := slice3 S2 k (by omega)
        by_cases hlt : k < i
        · have hne := eq3_no (K6.out k hlt)
          go_wp2_with fail
          go_roundw
          case rel => exact ⟨trivial, rfl, rfl, k + 1, by omega, by go_num⟩
          case measure => simp [intOf]; omega
        · obtain rfl : k = i := by omega
          have hne := eq3_yes k3
          clear k3
          rcases HC.out with h | ⟨h, h1⟩ | ⟨h, h1, h2⟩
          · have hpv : decV t.pow = 0 := by unfold decV; rw [h]; rfl
            have HGQ : Hid (∀ w', Calls Tryz.prog 70 #[.string S4] w' fun e w'' => ∃ A c, e = .returned (.tuple #[.slice A 0 c, .bool false]) ∧ Ext w' w'') := fun w' => (HGP.out w').mono fun e w'' hh => by
              obtain ⟨A, c, he, _, hx⟩ := hh
              rw [h, hpv, len_zero] at he
              exact ⟨A, c, he, hx⟩
            clear HGP h hpv HC
            go_wp2_with (first
              | (go_at_call 70; (with_reducible refine (HGQ.out _).mono ?_); rintro e wp ⟨Ap, cp, rfl, hx⟩; have XP := Lib.hid hx; obtain ⟨⟨r0, r1, r2⟩, rz⟩ := B0.out.ext hx; clear hx))
            refine bodyPost_ret (v := .tuple #[dv false none 0 0 0, I 2]) (by simp [results, Tryz.results9, go_sem, r0, r1, r2]) rfl ⟨ext_set3 (X0.out.trans XP.out) (Nat.le_refl _) _ _ _, .inr ⟨rfl, rfl⟩⟩
          · have hpv : decV t.pow = valD t.pow := by unfold decV; rw [h]; rfl
            have HGQ : Hid (∀ w', Calls Tryz.prog 70 #[.string S4] w' fun e w'' => ∃ A c, e = .returned (.tuple #[.slice A (len (valD t.pow)) c, .bool true]) ∧ Ext w' w'') := fun w' => (HGP.out w').mono fun e w'' hh => by
              obtain ⟨A, c, he, _, hx⟩ := hh
              rw [h, hpv] at he
              exact ⟨A, c, he, hx⟩
            clear HGP h hpv HC
            have h1' : ¬ (len (valD t.pow) : Int) = 1 := by omega
            generalize len (valD t.pow) = L at *
            go_wp2_with (first
              | (go_at_call 70; (with_reducible refine (HGQ.out _).mono ?_); rintro e wp ⟨Ap, cp, rfl, hx⟩; have XP := Lib.hid hx; obtain ⟨⟨r0, r1, r2⟩, rz⟩ := B0.out.ext hx; clear hx))
            refine bodyPost_ret (v := .tuple #[dv false none 0 0 0, I 2]) (by simp [results, Tryz.results9, go_sem, r0, r1, r2]) rfl ⟨ext_set3 (X0.out.trans XP.out) (Nat.le_refl _) _ _ _, .inr ⟨rfl, rfl⟩⟩
          · have hpv : decV t.pow = valD t.pow := by unfold decV; rw [h]; rfl
            have hlt1 : valD t.pow < 4294967296 := by have := lt_pB_len (valD t.pow); rw [h1] at this; have e : pB 1 = 4294967296 := by decide
                                                      omega
            have HGQ : Hid (∀ w', Calls Tryz.prog 70 #[.string S4] w' fun e w'' => ∃ b o c, e = .returned (.tuple #[.slice (some ⟨b, o, none⟩) 1 c, .bool true]) ∧ b < w''.heap.size ∧ w''.cell? ⟨b, o, none⟩ = some (U4 (valD t.pow)) ∧ Ext w' w'') := fun w' => (HGP.out w').mono fun e w'' hh => by
              obtain ⟨A, c, he, hon, hx⟩ := hh
              rw [h, hpv, h1] at he
              rw [hpv, h1] at hon
              obtain ⟨b, o, rfl, hb, hc⟩ := hon.rd.at_ (k := 0) (by omega)
              rw [dg_zero, Nat.mod_eq_of_lt hlt1, Nat.add_zero] at hc
              exact ⟨b, o, c, he, hb, hc, hx⟩
            clear HGP h hpv HC h1
            have h2' : (65536 : Int) < (valD t.pow : Int) := by omega
            generalize valD t.pow = q at *
            go_wp2_with (first
              | (go_at_call 70; (with_reducible refine (HGQ.out _).mono ?_); rintro e wp ⟨bp, op, cp, rfl, hbp, cp0, hx⟩; have XP := Lib.hid hx; obtain ⟨⟨r0, r1, r2⟩, rz⟩ := B0.out.ext hx; clear hx))
            refine bodyPost_ret (v := .tuple #[dv false none 0 0 0, I 2]) (by simp [results, Tryz.results9, go_sem, r0, r1, r2]) rfl ⟨ext_set3 (X0.out.trans XP.out) (Nat.le_refl _) _ _ _, .inr ⟨rfl, rfl⟩⟩


set_option maxRecDepth 100000 in
set_option maxHeartbeats 4000000 in
theorem rparse_nobody_n (l : List UInt8) (w : World) (hl : l.length ≤ 65536) (hf : (txOf l).fr = false) (hb : decB (txOf l).body = false) : Calls Tryz.prog 9 #[.string (bs l)] w (RParseRes false (txOf l).neg (valD (txOf l).body) (txOf l).den w) := by
  obtain ⟨hl1, hl2, hl3⟩ := lens l
  have hs1 : (bs l).size ≤ 65536 := by rw [bs_size]; exact hl
  have hs2 : (bs (Lib.trimPrefix l [45])).size = (Lib.trimPrefix l [45]).length := bs_size _
  have HSG := Lib.hid (sign_at l)
  obtain ⟨k1, k2⟩ : (txOf l).body = Lib.trimPrefix l [45] ∧ ∀ k, k + 2 < (Lib.trimPrefix l [45]).length → ¬ (bs (Lib.trimPrefix l [45])).extract k (k + 3) = bs [47, 50, 94] := by
    rcases tx_at l with ⟨_, h2⟩ | ⟨i, h, _⟩
    · exact h2
    · rw [hf] at h; cases h
  have hden : (txOf l).den = 0 := by unfold TX.den; rw [if_neg (by rw [hf]; decide)]
  have HG := Lib.hid (fun w' => rdig_any (txOf l).body w' (by omega))
  have hdv : decV (txOf l).body = 0 := by unfold decV; rw [hb]; rfl
  unfold DigRes at HG
  rw [hb, hdv] at HG
  obtain ⟨S1, e1⟩ : ∃ S, bs l = S := ⟨_, rfl⟩
  rw [e1] at hs1 ⊢
  obtain ⟨S2, e2⟩ : ∃ S, bs (Lib.trimPrefix l [45]) = S := ⟨_, rfl⟩
  rw [e2] at hs2
  have HSG2 : Hid ((S1 = bs [] ∧ S2 = S1 ∧ (txOf l).neg = false) ∨ (∃ h : 0 < S1.size, ¬ ((S1[0]'h).toNat : Int) = 45 ∧ S2 = S1 ∧ (txOf l).neg = false) ∨ (∃ h : 0 < S1.size, ((S1[0]'h).toNat : Int) = 45 ∧ S1.extract 1 S1.size = S2 ∧ (txOf l).neg = true)) := by
    subst e1 e2
    rcases HSG.out with ⟨h, h2, h3⟩ | ⟨h, h1, h2, h3⟩ | ⟨h, h1, h2, h3⟩
    · exact .inl ⟨by rw [h], by rw [h2], h3⟩
    · exact .inr (.inl ⟨h, by omega, by rw [h2], h3⟩)
    · exact .inr (.inr ⟨h, by omega, h2, h3⟩)
  clear HSG
  rw [e2] at k2
  obtain ⟨n, hn⟩ : ∃ n, (Lib.trimPrefix l [45]).length = n := ⟨_, rfl⟩
  rw [hn] at hs2 k2 hl3
  rw [show bs (txOf l).body = S2 by rw [k1]; exact e2] at HG
  clear e1 e2 hn
  generalize txOf l = t at *
  generalize hng : t.neg = ng at *
  clear hng
  have hs3 : S1.size ≤ 65536 := by omega
  clear hs1 hl1 hl2 hb hdv hf k1
  have B0 := Lib.hid (Bx.new w (.bool false) (.slice none 0 0) (I 0) 25)
  have X0 := Lib.hid (Ext.alloc w (.cells #[.bool false, .slice none 0 0, I 0] 25))
  have K2 := Lib.hid k2; clear k2
  have HDN := Lib.hid hden; clear hden
  have hs2' : (S2.size : Int) = n := by omega
  go_enter Tryz.func9, Tryz.ntmps9
  go_upto_region 4 with fail
  go_cut [4, 5, 24] (fun s4 s5 s24 wx => s4 = .string S1 ∧ s5 = .bool false ∧ s24 = .bool ng ∧ wx = w.alloc (.cells #[.bool false, .slice none 0 0, I 0] 25))
  case first =>
    clear B0 X0
    rcases HSG2.out with ⟨h, h2, h3⟩ | ⟨h, h1, h2, h3⟩ | ⟨h, h1, h2, h3⟩
    · have hne : S1.toList = [] := by rw [h, bs_toList]
      have hem : S1.toList.isEmpty = true := by rw [hne]; rfl
      clear h h2 HSG2
      go_wp2_with fail
      go_meet
      exact ⟨rfl, rfl, by rw [h3], rfl⟩
    · obtain ⟨hne, hem⟩ := ne_nil h
      have h4 : (0 : Int) < S1.size := by omega
      clear h2 HSG2
      go_wp2_with fail
      go_meet
      exact ⟨rfl, rfl, by rw [h3, beq_false_of_ne h1], rfl⟩
    · obtain ⟨hne, hem⟩ := ne_nil h
      have h4 : (0 : Int) < S1.size := by omega
      clear h2 HSG2
      go_wp2_with fail
      go_meet
      exact ⟨rfl, rfl, by rw [h3], rfl⟩
  case rest =>
    obtain ⟨rfl, rfl, rfl, rfl⟩ := hcut
    have HS3 : (ng = false ∧ S2 = S1) ∨ (ng = true ∧ S1.extract 1 S1.size = S2 ∧ 0 < S1.size) := by
      rcases HSG2.out with ⟨_, h2, h3⟩ | ⟨_, _, h2, h3⟩ | ⟨h, _, h2, h3⟩
      · exact .inl ⟨h3, h2⟩
      · exact .inl ⟨h3, h2⟩
      · exact .inr ⟨h3, h2, h⟩
    clear HSG2
    generalize w.alloc (.cells #[.bool false, .slice none 0 0, I 0] 25) = w0 at *
    rcases HS3 with ⟨h3, h2⟩ | ⟨h3, h2, h4⟩
    · subst h2
      subst h3
      go_wp2_with fail
      go_loopw [4, 6, 7] (fun s4 s6 c wr => w0 = wr ∧ s4 = .string S2 ∧ s6 = I 0 ∧ ∃ k : Nat, k ≤ n ∧ c = I k) (fun _ _ c _ => n - (intOf c).toNat)
      case atStart => exact ⟨rfl, rfl, rfl, 0, Nat.zero_le _, rfl⟩
      case round =>
        obtain ⟨rfl, rfl, rfl, k, hk, rfl⟩ := hrel
        by_cases hlt : k + 2 < n
        · have hne := eq3_no (K2.out k hlt)
          have hsl := slice3 S2 k (by omega)
          have hlt2 : (k : Int) + 2 < (n : Int) := by omega
          go_wp2_with fail
          go_roundw
          case rel => exact ⟨trivial, rfl, rfl, k + 1, by omega, by go_num⟩
          case measure => simp [intOf]; omega
        · have hlt2 : ¬ (k : Int) + 2 < (n : Int) := by omega
          rw [HDN.out]
          go_wp2_with (first
            | (go_at_call 70; (with_reducible refine (HG.out _).mono ?_); rintro e w1 ⟨A, c, rfl, hon, hx⟩; have X1 := Lib.hid hx; have B1 := Lib.hid (B0.out.ext hx); obtain ⟨⟨r0, r1, r2⟩, rz⟩ := (B1.out.ext (Ext.alloc w1 (.cells #[.bool false, .slice A (len 0) c, I 0] 25))); clear hon hx))
          refine bodyPost_ret (v := .tuple #[dv false none 0 0 0, I 2]) (by simp [results, Tryz.results9, go_sem, r0, r1, r2]) rfl ⟨ext_set3 ((X0.out.trans X1.out).trans (Ext.alloc _ _)) (Nat.le_refl _) _ _ _, .inr ⟨rfl, rfl⟩⟩
    · subst h3
      have h5 : (1 : Int) ≤ S1.size := by omega
      have hs9 : (S1.size : Int) ≤ 65536 := by omega
      go_wp2_with fail
      clear h2 h4 h5
      go_loopw [4, 6, 7] (fun s4 s6 c wr => w0 = wr ∧ s4 = .string S2 ∧ s6 = I 0 ∧ ∃ k : Nat, k ≤ n ∧ c = I k) (fun _ _ c _ => n - (intOf c).toNat)
      case atStart => exact ⟨rfl, rfl, rfl, 0, Nat.zero_le _, rfl⟩
      case round =>
        obtain ⟨rfl, rfl, rfl, k, hk, rfl⟩ := hrel
        by_cases hlt : k + 2 < n
        · have hne := eq3_no (K2.out k hlt)
          have hsl := slice3 S2 k (by omega)
          have hlt2 : (k : Int) + 2 < (n : Int) := by omega
          go_wp2_with fail
          go_roundw
          case rel => exact ⟨trivial, rfl, rfl, k + 1, by omega, by go_num⟩
          case measure => simp [intOf]; omega
        · have hlt2 : ¬ (k : Int) + 2 < (n : Int) := by omega
          rw [HDN.out]
          go_wp2_with (first
            | (go_at_call 70; (with_reducible refine (HG.out _).mono ?_); rintro e w1 ⟨A, c, rfl, hon, hx⟩; have X1 := Lib.hid hx; have B1 := Lib.hid (B0.out.ext hx); obtain ⟨⟨r0, r1, r2⟩, rz⟩ := (B1.out.ext (Ext.alloc w1 (.cells #[.bool true, .slice A (len 0) c, I 0] 25))); clear hon hx))
          refine bodyPost_ret (v := .tuple #[dv false none 0 0 0, I 2]) (by simp [results, Tryz.results9, go_sem, r0, r1, r2]) rfl ⟨ext_set3 ((X0.out.trans X1.out).trans (Ext.alloc _ _)) (Nat.le_refl _) _ _ _, .inr ⟨rfl, rfl⟩⟩


set_option maxRecDepth 100000 in
set_option maxHeartbeats 4000000 in
theorem rparse_nobody_p (l : List UInt8) (w : World) (hl : l.length ≤ 65536) (hf : (txOf l).fr = true) (hp : (txOf l).powR) (hb : decB (txOf l).body = false) : Calls Tryz.prog 9 #[.string (bs l)] w (RParseRes false (txOf l).neg (valD (txOf l).body) (txOf l).den w) := by
  obtain ⟨hl1, hl2, hl3⟩ := lens l
  have hs1 : (bs l).size ≤ 65536 := by rw [bs_size]; exact hl
  have hs2 : (bs (Lib.trimPrefix l [45])).size = (Lib.trimPrefix l [45]).length := bs_size _
  have HSG := Lib.hid (sign_at l)
  obtain ⟨i, k1, k2, k3, k5, k6⟩ : ∃ i : Nat, (bs (Lib.trimPrefix l [45])).extract 0 i = bs (txOf l).body ∧ (bs (Lib.trimPrefix l [45])).extract (i + 3) (Lib.trimPrefix l [45]).length = bs (txOf l).pow ∧
      (bs (Lib.trimPrefix l [45])).extract i (i + 3) = bs [47, 50, 94] ∧ i + 3 ≤ (Lib.trimPrefix l [45]).length ∧ ∀ k, k < i → ¬ (bs (Lib.trimPrefix l [45])).extract k (k + 3) = bs [47, 50, 94] := by
    rcases tx_at l with ⟨h, _⟩ | ⟨i, _, h2⟩
    · rw [hf] at h; cases h
    · exact ⟨i, h2⟩
  obtain ⟨p1, p2, p3⟩ := hp hf
  have hden : (txOf l).den = valD (txOf l).pow := by unfold TX.den; rw [if_pos hf]
  have HGP := Lib.hid (fun w' => rdig_any (txOf l).pow w' (by omega))
  have HG := Lib.hid (fun w' => rdig_any (txOf l).body w' (by omega))
  have hdv : decV (txOf l).body = 0 := by unfold decV; rw [hb]; rfl
  unfold DigRes at HG
  rw [hb, hdv] at HG
  have hpv : decV (txOf l).pow = valD (txOf l).pow := by unfold decV; rw [p1]; rfl
  unfold DigRes at HGP
  rw [p1, hpv] at HGP
  have hl1' : len (valD (txOf l).pow) = 1 := by
    have a : len (valD (txOf l).pow) ≤ 1 := len_le (by show _ < 4294967296 ^ 1; omega)
    have b : len (valD (txOf l).pow) ≠ 0 := fun e => by have := len_eq_zero.1 e; omega
    omega
  have hdg : dg (valD (txOf l).pow) 0 = valD (txOf l).pow := by rw [dg_zero]; omega
  rw [hl1'] at HGP
  obtain ⟨S1, e1⟩ : ∃ S, bs l = S := ⟨_, rfl⟩
  rw [e1] at hs1 ⊢
  obtain ⟨S2, e2⟩ : ∃ S, bs (Lib.trimPrefix l [45]) = S := ⟨_, rfl⟩
  rw [e2] at hs2
  have HSG2 : Hid ((S1 = bs [] ∧ S2 = S1 ∧ (txOf l).neg = false) ∨ (∃ h : 0 < S1.size, ¬ ((S1[0]'h).toNat : Int) = 45 ∧ S2 = S1 ∧ (txOf l).neg = false) ∨ (∃ h : 0 < S1.size, ((S1[0]'h).toNat : Int) = 45 ∧ S1.extract 1 S1.size = S2 ∧ (txOf l).neg = true)) := by
    subst e1 e2
    rcases HSG.out with ⟨h, h2, h3⟩ | ⟨h, h1, h2, h3⟩ | ⟨h, h1, h2, h3⟩
    · exact .inl ⟨by rw [h], by rw [h2], h3⟩
    · exact .inr (.inl ⟨h, by omega, by rw [h2], h3⟩)
    · exact .inr (.inr ⟨h, by omega, h2, h3⟩)
  clear HSG
  rw [e2] at k1 k2 k3 k6
  obtain ⟨n, hn⟩ : ∃ n, (Lib.trimPrefix l [45]).length = n := ⟨_, rfl⟩
  rw [hn] at hs2 k2 k5 hl3
  clear e1 e2 hn
  generalize txOf l = t at *
  generalize hng : t.neg = ng at *
  clear hng
  obtain ⟨S3, e3⟩ : ∃ S, bs t.body = S := ⟨_, rfl⟩
  obtain ⟨S4, e4⟩ : ∃ S, bs t.pow = S := ⟨_, rfl⟩
  rw [e3] at HG k1
  rw [e4] at HGP k2
  have HD := Lib.hid hdg; have HDN := Lib.hid hden
  generalize hq : valD t.pow = q at *
  have hs3 : S1.size ≤ 65536 := by omega
  clear hs1 hl1 hl2 hb hdv hp hf hpv e3 e4 hdg hden p1 hl1' hq
  have B0 := Lib.hid (Bx.new w (.bool false) (.slice none 0 0) (I 0) 25)
  have X0 := Lib.hid (Ext.alloc w (.cells #[.bool false, .slice none 0 0, I 0] 25))
  have K6 := Lib.hid k6; clear k6
  have hs2' : (S2.size : Int) = n := by omega
  go_enter Tryz.func9, Tryz.ntmps9
  go_upto_region 4 with fail
  go_cut [4, 5, 24] (fun s4 s5 s24 wx => s4 = .string S1 ∧ s5 = .bool false ∧ s24 = .bool ng ∧ wx = w.alloc (.cells #[.bool false, .slice none 0 0, I 0] 25))
  case first =>
    clear B0 X0
    rcases HSG2.out with ⟨h, h2, h3⟩ | ⟨h, h1, h2, h3⟩ | ⟨h, h1, h2, h3⟩
    · have hne : S1.toList = [] := by rw [h, bs_toList]
      have hem : S1.toList.isEmpty = true := by rw [hne]; rfl
      clear h h2 HSG2
      go_wp2_with fail
      go_meet
      exact ⟨rfl, rfl, by rw [h3], rfl⟩
    · obtain ⟨hne, hem⟩ := ne_nil h
      have h4 : (0 : Int) < S1.size := by omega
      clear h2 HSG2
      go_wp2_with fail
      go_meet
      exact ⟨rfl, rfl, by rw [h3, beq_false_of_ne h1], rfl⟩
    · obtain ⟨hne, hem⟩ := ne_nil h
      have h4 : (0 : Int) < S1.size := by omega
      clear h2 HSG2
      go_wp2_with fail
      go_meet
      exact ⟨rfl, rfl, by rw [h3], rfl⟩
  case rest =>
    obtain ⟨rfl, rfl, rfl, rfl⟩ := hcut
    have HS3 : (ng = false ∧ S2 = S1) ∨ (ng = true ∧ S1.extract 1 S1.size = S2 ∧ 0 < S1.size) := by
      rcases HSG2.out with ⟨_, h2, h3⟩ | ⟨_, _, h2, h3⟩ | ⟨h, _, h2, h3⟩
      · exact .inl ⟨h3, h2⟩
      · exact .inl ⟨h3, h2⟩
      · exact .inr ⟨h3, h2, h⟩
    clear HSG2
    generalize w.alloc (.cells #[.bool false, .slice none 0 0, I 0] 25) = w0 at *
    rcases HS3 with ⟨h3, h2⟩ | ⟨h3, h2, h4⟩
    · subst h2
      subst h3
      go_wp2_with fail
      go_loopw [4, 6, 7] (fun s4 s6 c wr => w0 = wr ∧ s4 = .string S2 ∧ s6 = I 0 ∧ ∃ k : Nat, k ≤ i ∧ c = I k) (fun _ _ c _ => i - (intOf c).toNat)
      case atStart => exact ⟨rfl, rfl, rfl, 0, Nat.zero_le _, rfl⟩
      case round =>
        obtain ⟨rfl, rfl, rfl, k, hk, rfl⟩ := hrel
        have hlt2 : (k : Int) + 2 < (n : Int) := by omega
        have hsl := slice3 S2 k (by omega)
        by_cases hlt : k < i
        · have hne := eq3_no (K6.out k hlt)
          go_wp2_with fail
          go_roundw
          case rel => exact ⟨trivial, rfl, rfl, k + 1, by omega, by go_num⟩
          case measure => simp [intOf]; omega
        · obtain rfl : k = i := by omega
          have hne := eq3_yes k3
          clear k3
          go_wp2_with (first
            | (go_at_call 70; (with_reducible refine (HGP.out _).mono ?_); rintro e wp ⟨Ap, cp, rfl, hon, hx⟩; have XP := Lib.hid hx; have BP := Lib.hid (B0.out.ext hx); obtain ⟨bp, op, rfl, hbp, cp0⟩ := (hon.rd).at_ (k := 0) (by omega); rw [HD.out, Nat.add_zero] at cp0; clear hon hx))
          have hb := Ext.refl wp
          obtain ⟨hc, hf⟩ := hb.old
          have hL := fun (x : Later _) => (Ext.trans hb x.ext).old.1
          refine wp_region_later (by kernel_rfl) (by kernel_rfl) ?_
          repeat (go_big_quiet_step ((fail)))
          refine wpQuiet_nil ?_
          intro w2 hw2
          replace hb := Ext.trans hb (Later.of hw2)
          clear hw2 hL
          obtain ⟨hc, hf⟩ := hb.old
          have B1 := Lib.hid (BP.out.ext hb); have X1 := Lib.hid ((X0.out.trans XP.out).trans hb)
          clear hb hc hf B0 X0 BP XP cp0
          have B0 := Lib.hid B1.out; have X0 := Lib.hid X1.out
          clear B1 X1
          go_wp2_with (first
            | (go_at_call 70; (with_reducible refine (HG.out _).mono ?_); rintro e w1 ⟨A, c, rfl, hon, hx⟩; have X1 := Lib.hid hx; have B1 := Lib.hid (B0.out.ext hx); obtain ⟨⟨r0, r1, r2⟩, rz⟩ := (B1.out.ext (Ext.alloc w1 (.cells #[.bool false, .slice A (len 0) c, I q] 25))); clear hon hx))
          refine bodyPost_ret (v := .tuple #[dv false none 0 0 0, I 2]) (by simp [results, Tryz.results9, go_sem, r0, r1, r2]) rfl ⟨ext_set3 ((X0.out.trans X1.out).trans (Ext.alloc _ _)) (Nat.le_refl _) _ _ _, .inr ⟨rfl, rfl⟩⟩
    · subst h3
      have h5 : (1 : Int) ≤ S1.size := by omega
      have hs9 : (S1.size : Int) ≤ 65536 := by omega
      go_wp2_with fail
      clear h2 h4 h5
      go_loopw [4, 6, 7] (fun s4 s6 c wr => w0 = wr ∧ s4 = .string S2 ∧ s6 = I 0 ∧ ∃ k : Nat, k ≤ i ∧ c = I k) (fun _ _ c _ => i - (intOf c).toNat)
      case atStart => exact ⟨rfl, rfl, rfl, 0, Nat.zero_le _, rfl⟩
      case round =>
        obtain ⟨rfl, rfl, rfl, k, hk, rfl⟩ := hrel
        have hlt2 : (k : Int) + 2 < (n : Int) := by omega
        have hsl := slice3 S2 k (by omega)
        by_cases hlt : k < i
        · have hne := eq3_no (K6.out k hlt)
          go_wp2_with fail
          go_roundw
          case rel => exact ⟨trivial, rfl, rfl, k + 1, by omega, by go_num⟩
          case measure => simp [intOf]; omega
        · obtain rfl : k = i := by omega
          have hne := eq3_yes k3
          clear k3
          go_wp2_with (first
            | (go_at_call 70; (with_reducible refine (HGP.out _).mono ?_); rintro e wp ⟨Ap, cp, rfl, hon, hx⟩; have XP := Lib.hid hx; have BP := Lib.hid (B0.out.ext hx); obtain ⟨bp, op, rfl, hbp, cp0⟩ := (hon.rd).at_ (k := 0) (by omega); rw [HD.out, Nat.add_zero] at cp0; clear hon hx))
          have hb := Ext.refl wp
          obtain ⟨hc, hf⟩ := hb.old
          have hL := fun (x : Later _) => (Ext.trans hb x.ext).old.1
          refine wp_region_later (by kernel_rfl) (by kernel_rfl) ?_
          repeat (go_big_quiet_step ((fail)))
          refine wpQuiet_nil ?_
          intro w2 hw2
          replace hb := Ext.trans hb (Later.of hw2)
          clear hw2 hL
          obtain ⟨hc, hf⟩ := hb.old
          have B1 := Lib.hid (BP.out.ext hb); have X1 := Lib.hid ((X0.out.trans XP.out).trans hb)
          clear hb hc hf B0 X0 BP XP cp0
          have B0 := Lib.hid B1.out; have X0 := Lib.hid X1.out
          clear B1 X1
          go_wp2_with (first
            | (go_at_call 70; (with_reducible refine (HG.out _).mono ?_); rintro e w1 ⟨A, c, rfl, hon, hx⟩; have X1 := Lib.hid hx; have B1 := Lib.hid (B0.out.ext hx); obtain ⟨⟨r0, r1, r2⟩, rz⟩ := (B1.out.ext (Ext.alloc w1 (.cells #[.bool true, .slice A (len 0) c, I q] 25))); clear hon hx))
          refine bodyPost_ret (v := .tuple #[dv false none 0 0 0, I 2]) (by simp [results, Tryz.results9, go_sem, r0, r1, r2]) rfl ⟨ext_set3 ((X0.out.trans X1.out).trans (Ext.alloc _ _)) (Nat.le_refl _) _ _ _, .inr ⟨rfl, rfl⟩⟩


set_option maxRecDepth 100000 in
set_option maxHeartbeats 4000000 in
theorem rparse_invalid_n (l : List UInt8) (w : World) (hl : l.length ≤ 65536) (hf : (txOf l).fr = false) (hb : decB (txOf l).body = true) (hm : len (valD (txOf l).body) ≤ 1048576) (hv : vld (txOf l).neg (len (valD (txOf l).body)) (dg (valD (txOf l).body)) (txOf l).den = false) : Calls Tryz.prog 9 #[.string (bs l)] w (RParseRes false (txOf l).neg (valD (txOf l).body) (txOf l).den w) := by
  obtain ⟨hl1, hl2, hl3⟩ := lens l
  have hs1 : (bs l).size ≤ 65536 := by rw [bs_size]; exact hl
  have hs2 : (bs (Lib.trimPrefix l [45])).size = (Lib.trimPrefix l [45]).length := bs_size _
  have HSG := Lib.hid (sign_at l)
  obtain ⟨k1, k2⟩ : (txOf l).body = Lib.trimPrefix l [45] ∧ ∀ k, k + 2 < (Lib.trimPrefix l [45]).length → ¬ (bs (Lib.trimPrefix l [45])).extract k (k + 3) = bs [47, 50, 94] := by
    rcases tx_at l with ⟨_, h2⟩ | ⟨i, h, _⟩
    · exact h2
    · rw [hf] at h; cases h
  have hden : (txOf l).den = 0 := by unfold TX.den; rw [if_neg (by rw [hf]; decide)]
  have HG := Lib.hid (fun w' => rdig_any (txOf l).body w' (by omega))
  rw [hden] at hv
  replace hv : vld (txOf l).neg (len (valD (txOf l).body)) (dg (valD (txOf l).body)) (0 : Int) = false := hv
  have HV := Lib.hid (fun A c w' (h : Rd w' A (len (valD (txOf l).body)) (dg (valD (txOf l).body))) => rvalid_any (txOf l).neg A (len (valD (txOf l).body)) c (0 : Int) (dg (valD (txOf l).body)) w' h (fun _ _ => dg_lt _ _) (by omega))
  rw [hv] at HV
  have hdv : decV (txOf l).body = valD (txOf l).body := by unfold decV; rw [hb]; rfl
  unfold DigRes at HG
  rw [hb, hdv] at HG
  obtain ⟨S1, e1⟩ : ∃ S, bs l = S := ⟨_, rfl⟩
  rw [e1] at hs1 ⊢
  obtain ⟨S2, e2⟩ : ∃ S, bs (Lib.trimPrefix l [45]) = S := ⟨_, rfl⟩
  rw [e2] at hs2
  have HSG2 : Hid ((S1 = bs [] ∧ S2 = S1 ∧ (txOf l).neg = false) ∨ (∃ h : 0 < S1.size, ¬ ((S1[0]'h).toNat : Int) = 45 ∧ S2 = S1 ∧ (txOf l).neg = false) ∨ (∃ h : 0 < S1.size, ((S1[0]'h).toNat : Int) = 45 ∧ S1.extract 1 S1.size = S2 ∧ (txOf l).neg = true)) := by
    subst e1 e2
    rcases HSG.out with ⟨h, h2, h3⟩ | ⟨h, h1, h2, h3⟩ | ⟨h, h1, h2, h3⟩
    · exact .inl ⟨by rw [h], by rw [h2], h3⟩
    · exact .inr (.inl ⟨h, by omega, by rw [h2], h3⟩)
    · exact .inr (.inr ⟨h, by omega, h2, h3⟩)
  clear HSG
  rw [e2] at k2
  obtain ⟨n, hn⟩ : ∃ n, (Lib.trimPrefix l [45]).length = n := ⟨_, rfl⟩
  rw [hn] at hs2 k2 hl3
  rw [show bs (txOf l).body = S2 by rw [k1]; exact e2] at HG
  clear e1 e2 hn
  generalize txOf l = t at *
  generalize hng : t.neg = ng at *
  clear hng
  have hs3 : S1.size ≤ 65536 := by omega
  clear hs1 hl1 hl2 hb hdv hv hm hf k1
  have B0 := Lib.hid (Bx.new w (.bool false) (.slice none 0 0) (I 0) 25)
  have X0 := Lib.hid (Ext.alloc w (.cells #[.bool false, .slice none 0 0, I 0] 25))
  have K2 := Lib.hid k2; clear k2
  have HDN := Lib.hid hden; clear hden
  have hs2' : (S2.size : Int) = n := by omega
  go_enter Tryz.func9, Tryz.ntmps9
  go_upto_region 4 with fail
  go_cut [4, 5, 24] (fun s4 s5 s24 wx => s4 = .string S1 ∧ s5 = .bool false ∧ s24 = .bool ng ∧ wx = w.alloc (.cells #[.bool false, .slice none 0 0, I 0] 25))
  case first =>
    clear B0 X0
    rcases HSG2.out with ⟨h, h2, h3⟩ | ⟨h, h1, h2, h3⟩ | ⟨h, h1, h2, h3⟩
    · have hne : S1.toList = [] := by rw [h, bs_toList]
      have hem : S1.toList.isEmpty = true := by rw [hne]; rfl
      clear h h2 HSG2
      go_wp2_with fail
      go_meet
      exact ⟨rfl, rfl, by rw [h3], rfl⟩
    · obtain ⟨hne, hem⟩ := ne_nil h
      have h4 : (0 : Int) < S1.size := by omega
      clear h2 HSG2
      go_wp2_with fail
      go_meet
      exact ⟨rfl, rfl, by rw [h3, beq_false_of_ne h1], rfl⟩
    · obtain ⟨hne, hem⟩ := ne_nil h
      have h4 : (0 : Int) < S1.size := by omega
      clear h2 HSG2
      go_wp2_with fail
      go_meet
      exact ⟨rfl, rfl, by rw [h3], rfl⟩
  case rest =>
    obtain ⟨rfl, rfl, rfl, rfl⟩ := hcut
    have HS3 : (ng = false ∧ S2 = S1) ∨ (ng = true ∧ S1.extract 1 S1.size = S2 ∧ 0 < S1.size) := by
      rcases HSG2.out with ⟨_, h2, h3⟩ | ⟨_, _, h2, h3⟩ | ⟨h, _, h2, h3⟩
      · exact .inl ⟨h3, h2⟩
      · exact .inl ⟨h3, h2⟩
      · exact .inr ⟨h3, h2, h⟩
    clear HSG2
    generalize w.alloc (.cells #[.bool false, .slice none 0 0, I 0] 25) = w0 at *
    rcases HS3 with ⟨h3, h2⟩ | ⟨h3, h2, h4⟩
    · subst h2
      subst h3
      go_wp2_with fail
      go_loopw [4, 6, 7] (fun s4 s6 c wr => w0 = wr ∧ s4 = .string S2 ∧ s6 = I 0 ∧ ∃ k : Nat, k ≤ n ∧ c = I k) (fun _ _ c _ => n - (intOf c).toNat)
      case atStart => exact ⟨rfl, rfl, rfl, 0, Nat.zero_le _, rfl⟩
      case round =>
        obtain ⟨rfl, rfl, rfl, k, hk, rfl⟩ := hrel
        by_cases hlt : k + 2 < n
        · have hne := eq3_no (K2.out k hlt)
          have hsl := slice3 S2 k (by omega)
          have hlt2 : (k : Int) + 2 < (n : Int) := by omega
          go_wp2_with fail
          go_roundw
          case rel => exact ⟨trivial, rfl, rfl, k + 1, by omega, by go_num⟩
          case measure => simp [intOf]; omega
        · have hlt2 : ¬ (k : Int) + 2 < (n : Int) := by omega
          rw [HDN.out]
          go_wp2_with (first
            | (go_at_call 70; (with_reducible refine (HG.out _).mono ?_); rintro e w1 ⟨A, c, rfl, hon, hx⟩; have HN := Lib.hid hon; have X1 := Lib.hid hx; have B1 := Lib.hid (B0.out.ext hx); clear hon hx)
            | (go_at_call 71; (with_reducible refine (HV.out A c _ (HN.out.rd.ext (Ext.alloc _ _))).mono ?_); rintro e w2 ⟨rfl, hx⟩; obtain ⟨⟨r0, r1, r2⟩, rz⟩ := (B1.out.ext (Ext.alloc _ _)).ext hx; obtain ⟨⟨q0, q1, q2⟩, qz⟩ := (Bx.new w1 (.bool false) (.slice A (len (valD t.body)) c) (I 0) 25).ext hx; have X2 := Lib.hid ((Ext.alloc w1 _).trans hx); have Y2 := Lib.hid hx; clear hx))
          have hlt : w.heap.size < w1.heap.size := B1.out.lt
          refine bodyPost_ret (v := .tuple #[dv false none 0 0 0, I 2]) (by simp [results, Tryz.results9, go_sem, r0, r1, r2]) rfl ⟨ext_set3 (X0.out.trans (X1.out.trans X2.out)) (Nat.le_refl _) _ _ _, .inr ⟨rfl, rfl⟩⟩
    · subst h3
      have h5 : (1 : Int) ≤ S1.size := by omega
      have hs9 : (S1.size : Int) ≤ 65536 := by omega
      go_wp2_with fail
      clear h2 h4 h5
      go_loopw [4, 6, 7] (fun s4 s6 c wr => w0 = wr ∧ s4 = .string S2 ∧ s6 = I 0 ∧ ∃ k : Nat, k ≤ n ∧ c = I k) (fun _ _ c _ => n - (intOf c).toNat)
      case atStart => exact ⟨rfl, rfl, rfl, 0, Nat.zero_le _, rfl⟩
      case round =>
        obtain ⟨rfl, rfl, rfl, k, hk, rfl⟩ := hrel
        by_cases hlt : k + 2 < n
        · have hne := eq3_no (K2.out k hlt)
          have hsl := slice3 S2 k (by omega)
          have hlt2 : (k : Int) + 2 < (n : Int) := by omega
          go_wp2_with fail
          go_roundw
          case rel => exact ⟨trivial, rfl, rfl, k + 1, by omega, by go_num⟩
          case measure => simp [intOf]; omega
        · have hlt2 : ¬ (k : Int) + 2 < (n : Int) := by omega
          rw [HDN.out]
          go_wp2_with (first
            | (go_at_call 70; (with_reducible refine (HG.out _).mono ?_); rintro e w1 ⟨A, c, rfl, hon, hx⟩; have HN := Lib.hid hon; have X1 := Lib.hid hx; have B1 := Lib.hid (B0.out.ext hx); clear hon hx)
            | (go_at_call 71; (with_reducible refine (HV.out A c _ (HN.out.rd.ext (Ext.alloc _ _))).mono ?_); rintro e w2 ⟨rfl, hx⟩; obtain ⟨⟨r0, r1, r2⟩, rz⟩ := (B1.out.ext (Ext.alloc _ _)).ext hx; obtain ⟨⟨q0, q1, q2⟩, qz⟩ := (Bx.new w1 (.bool true) (.slice A (len (valD t.body)) c) (I 0) 25).ext hx; have X2 := Lib.hid ((Ext.alloc w1 _).trans hx); have Y2 := Lib.hid hx; clear hx))
          have hlt : w.heap.size < w1.heap.size := B1.out.lt
          refine bodyPost_ret (v := .tuple #[dv false none 0 0 0, I 2]) (by simp [results, Tryz.results9, go_sem, r0, r1, r2]) rfl ⟨ext_set3 (X0.out.trans (X1.out.trans X2.out)) (Nat.le_refl _) _ _ _, .inr ⟨rfl, rfl⟩⟩


set_option maxRecDepth 100000 in
set_option maxHeartbeats 4000000 in
theorem rparse_invalid_p (l : List UInt8) (w : World) (hl : l.length ≤ 65536) (hf : (txOf l).fr = true) (hp : (txOf l).powR) (hb : decB (txOf l).body = true) (hm : len (valD (txOf l).body) ≤ 1048576) (hv : vld (txOf l).neg (len (valD (txOf l).body)) (dg (valD (txOf l).body)) (txOf l).den = false) : Calls Tryz.prog 9 #[.string (bs l)] w (RParseRes false (txOf l).neg (valD (txOf l).body) (txOf l).den w) := by
  obtain ⟨hl1, hl2, hl3⟩ := lens l
  have hs1 : (bs l).size ≤ 65536 := by rw [bs_size]; exact hl
  have hs2 : (bs (Lib.trimPrefix l [45])).size = (Lib.trimPrefix l [45]).length := bs_size _
  have HSG := Lib.hid (sign_at l)
  obtain ⟨i, k1, k2, k3, k5, k6⟩ : ∃ i : Nat, (bs (Lib.trimPrefix l [45])).extract 0 i = bs (txOf l).body ∧ (bs (Lib.trimPrefix l [45])).extract (i + 3) (Lib.trimPrefix l [45]).length = bs (txOf l).pow ∧
      (bs (Lib.trimPrefix l [45])).extract i (i + 3) = bs [47, 50, 94] ∧ i + 3 ≤ (Lib.trimPrefix l [45]).length ∧ ∀ k, k < i → ¬ (bs (Lib.trimPrefix l [45])).extract k (k + 3) = bs [47, 50, 94] := by
    rcases tx_at l with ⟨h, _⟩ | ⟨i, _, h2⟩
    · rw [hf] at h; cases h
    · exact ⟨i, h2⟩
  obtain ⟨p1, p2, p3⟩ := hp hf
  have hden : (txOf l).den = valD (txOf l).pow := by unfold TX.den; rw [if_pos hf]
  have HGP := Lib.hid (fun w' => rdig_any (txOf l).pow w' (by omega))
  have HG := Lib.hid (fun w' => rdig_any (txOf l).body w' (by omega))
  rw [hden] at hv
  replace hv : vld (txOf l).neg (len (valD (txOf l).body)) (dg (valD (txOf l).body)) ((valD (txOf l).pow : Nat) : Int) = false := hv
  have HV := Lib.hid (fun A c w' (h : Rd w' A (len (valD (txOf l).body)) (dg (valD (txOf l).body))) => rvalid_any (txOf l).neg A (len (valD (txOf l).body)) c ((valD (txOf l).pow : Nat) : Int) (dg (valD (txOf l).body)) w' h (fun _ _ => dg_lt _ _) (by omega))
  rw [hv] at HV
  have hdv : decV (txOf l).body = valD (txOf l).body := by unfold decV; rw [hb]; rfl
  unfold DigRes at HG
  rw [hb, hdv] at HG
  have hpv : decV (txOf l).pow = valD (txOf l).pow := by unfold decV; rw [p1]; rfl
  unfold DigRes at HGP
  rw [p1, hpv] at HGP
  have hl1' : len (valD (txOf l).pow) = 1 := by
    have a : len (valD (txOf l).pow) ≤ 1 := len_le (by show _ < 4294967296 ^ 1; omega)
    have b : len (valD (txOf l).pow) ≠ 0 := fun e => by have := len_eq_zero.1 e; omega
    omega
  have hdg : dg (valD (txOf l).pow) 0 = valD (txOf l).pow := by rw [dg_zero]; omega
  rw [hl1'] at HGP
  obtain ⟨S1, e1⟩ : ∃ S, bs l = S := ⟨_, rfl⟩
  rw [e1] at hs1 ⊢
  obtain ⟨S2, e2⟩ : ∃ S, bs (Lib.trimPrefix l [45]) = S := ⟨_, rfl⟩
  rw [e2] at hs2
  have HSG2 : Hid ((S1 = bs [] ∧ S2 = S1 ∧ (txOf l).neg = false) ∨ (∃ h : 0 < S1.size, ¬ ((S1[0]'h).toNat : Int) = 45 ∧ S2 = S1 ∧ (txOf l).neg = false) ∨ (∃ h : 0 < S1.size, ((S1[0]'h).toNat : Int) = 45 ∧ S1.extract 1 S1.size = S2 ∧ (txOf l).neg = true)) := by
    subst e1 e2
    rcases HSG.out with ⟨h, h2, h3⟩ | ⟨h, h1, h2, h3⟩ | ⟨h, h1, h2, h3⟩
    · exact .inl ⟨by rw [h], by rw [h2], h3⟩
    · exact .inr (.inl ⟨h, by omega, by rw [h2], h3⟩)
    · exact .inr (.inr ⟨h, by omega, h2, h3⟩)
  clear HSG
  rw [e2] at k1 k2 k3 k6
  obtain ⟨n, hn⟩ : ∃ n, (Lib.trimPrefix l [45]).length = n := ⟨_, rfl⟩
  rw [hn] at hs2 k2 k5 hl3
  clear e1 e2 hn
  generalize txOf l = t at *
  generalize hng : t.neg = ng at *
  clear hng
  obtain ⟨S3, e3⟩ : ∃ S, bs t.body = S := ⟨_, rfl⟩
  obtain ⟨S4, e4⟩ : ∃ S, bs t.pow = S := ⟨_, rfl⟩
  rw [e3] at HG k1
  rw [e4] at HGP k2
  have HD := Lib.hid hdg; have HDN := Lib.hid hden
  generalize hq : valD t.pow = q at *
  have hs3 : S1.size ≤ 65536 := by omega
  clear hs1 hl1 hl2 hb hdv hv hm hp hf hpv e3 e4 hdg hden p1 hl1' hq
  have B0 := Lib.hid (Bx.new w (.bool false) (.slice none 0 0) (I 0) 25)
  have X0 := Lib.hid (Ext.alloc w (.cells #[.bool false, .slice none 0 0, I 0] 25))
  have K6 := Lib.hid k6; clear k6
  have hs2' : (S2.size : Int) = n := by omega
  go_enter Tryz.func9, Tryz.ntmps9
  go_upto_region 4 with fail
  go_cut [4, 5, 24] (fun s4 s5 s24 wx => s4 = .string S1 ∧ s5 = .bool false ∧ s24 = .bool ng ∧ wx = w.alloc (.cells #[.bool false, .slice none 0 0, I 0] 25))
  case first =>
    clear B0 X0
    rcases HSG2.out with ⟨h, h2, h3⟩ | ⟨h, h1, h2, h3⟩ | ⟨h, h1, h2, h3⟩
    · have hne : S1.toList = [] := by rw [h, bs_toList]
      have hem : S1.toList.isEmpty = true := by rw [hne]; rfl
      clear h h2 HSG2
      go_wp2_with fail
      go_meet
      exact ⟨rfl, rfl, by rw [h3], rfl⟩
    · obtain ⟨hne, hem⟩ := ne_nil h
      have h4 : (0 : Int) < S1.size := by omega
      clear h2 HSG2
      go_wp2_with fail
      go_meet
      exact ⟨rfl, rfl, by rw [h3, beq_false_of_ne h1], rfl⟩
    · obtain ⟨hne, hem⟩ := ne_nil h
      have h4 : (0 : Int) < S1.size := by omega
      clear h2 HSG2
      go_wp2_with fail
      go_meet
      exact ⟨rfl, rfl, by rw [h3], rfl⟩
  case rest =>
    obtain ⟨rfl, rfl, rfl, rfl⟩ := hcut
    have HS3 : (ng = false ∧ S2 = S1) ∨ (ng = true ∧ S1.extract 1 S1.size = S2 ∧ 0 < S1.size) := by
      rcases HSG2.out with ⟨_, h2, h3⟩ | ⟨_, _, h2, h3⟩ | ⟨h, _, h2, h3⟩
      · exact .inl ⟨h3, h2⟩
      · exact .inl ⟨h3, h2⟩
      · exact .inr ⟨h3, h2, h⟩
    clear HSG2
    generalize w.alloc (.cells #[.bool false, .slice none 0 0, I 0] 25) = w0 at *
    rcases HS3 with ⟨h3, h2⟩ | ⟨h3, h2, h4⟩
    · subst h2
      subst h3
      go_wp2_with fail
      go_loopw [4, 6, 7] (fun s4 s6 c wr => w0 = wr ∧ s4 = .string S2 ∧ s6 = I 0 ∧ ∃ k : Nat, k ≤ i ∧ c = I k) (fun _ _ c _ => i - (intOf c).toNat)
      case atStart => exact ⟨rfl, rfl, rfl, 0, Nat.zero_le _, rfl⟩
      case round =>
        obtain ⟨rfl, rfl, rfl, k, hk, rfl⟩ := hrel
        have hlt2 : (k : Int) + 2 < (n : Int) := by omega
        have hsl := slice3 S2 k (by omega)
        by_cases hlt : k < i
        · have hne := eq3_no (K6.out k hlt)
          go_wp2_with fail
          go_roundw
          case rel => exact ⟨trivial, rfl, rfl, k + 1, by omega, by go_num⟩
          case measure => simp [intOf]; omega
        · obtain rfl : k = i := by omega
          have hne := eq3_yes k3
          clear k3
          go_wp2_with (first
            | (go_at_call 70; (with_reducible refine (HGP.out _).mono ?_); rintro e wp ⟨Ap, cp, rfl, hon, hx⟩; have XP := Lib.hid hx; have BP := Lib.hid (B0.out.ext hx); obtain ⟨bp, op, rfl, hbp, cp0⟩ := (hon.rd).at_ (k := 0) (by omega); rw [HD.out, Nat.add_zero] at cp0; clear hon hx))
          have hb := Ext.refl wp
          obtain ⟨hc, hf⟩ := hb.old
          have hL := fun (x : Later _) => (Ext.trans hb x.ext).old.1
          refine wp_region_later (by kernel_rfl) (by kernel_rfl) ?_
          repeat (go_big_quiet_step ((fail)))
          refine wpQuiet_nil ?_
          intro w2 hw2
          replace hb := Ext.trans hb (Later.of hw2)
          clear hw2 hL
          obtain ⟨hc, hf⟩ := hb.old
          have B1 := Lib.hid (BP.out.ext hb); have X1 := Lib.hid ((X0.out.trans XP.out).trans hb)
          clear hb hc hf B0 X0 BP XP cp0
          have B0 := Lib.hid B1.out; have X0 := Lib.hid X1.out
          clear B1 X1
          go_wp2_with (first
            | (go_at_call 70; (with_reducible refine (HG.out _).mono ?_); rintro e w1 ⟨A, c, rfl, hon, hx⟩; have HN := Lib.hid hon; have X1 := Lib.hid hx; have B1 := Lib.hid (B0.out.ext hx); clear hon hx)
            | (go_at_call 71; (with_reducible refine (HV.out A c _ (HN.out.rd.ext (Ext.alloc _ _))).mono ?_); rintro e w2 ⟨rfl, hx⟩; obtain ⟨⟨r0, r1, r2⟩, rz⟩ := (B1.out.ext (Ext.alloc _ _)).ext hx; obtain ⟨⟨q0, q1, q2⟩, qz⟩ := (Bx.new w1 (.bool false) (.slice A (len (valD t.body)) c) (I q) 25).ext hx; have X2 := Lib.hid ((Ext.alloc w1 _).trans hx); have Y2 := Lib.hid hx; clear hx))
          have hlt : w.heap.size < w1.heap.size := B1.out.lt
          refine bodyPost_ret (v := .tuple #[dv false none 0 0 0, I 2]) (by simp [results, Tryz.results9, go_sem, r0, r1, r2]) rfl ⟨ext_set3 (X0.out.trans (X1.out.trans X2.out)) (Nat.le_refl _) _ _ _, .inr ⟨rfl, rfl⟩⟩
    · subst h3
      have h5 : (1 : Int) ≤ S1.size := by omega
      have hs9 : (S1.size : Int) ≤ 65536 := by omega
      go_wp2_with fail
      clear h2 h4 h5
      go_loopw [4, 6, 7] (fun s4 s6 c wr => w0 = wr ∧ s4 = .string S2 ∧ s6 = I 0 ∧ ∃ k : Nat, k ≤ i ∧ c = I k) (fun _ _ c _ => i - (intOf c).toNat)
      case atStart => exact ⟨rfl, rfl, rfl, 0, Nat.zero_le _, rfl⟩
      case round =>
        obtain ⟨rfl, rfl, rfl, k, hk, rfl⟩ := hrel
        have hlt2 : (k : Int) + 2 < (n : Int) := by omega
        have hsl := slice3 S2 k (by omega)
        by_cases hlt : k < i
        · have hne := eq3_no (K6.out k hlt)
          go_wp2_with fail
          go_roundw
          case rel => exact ⟨trivial, rfl, rfl, k + 1, by omega, by go_num⟩
          case measure => simp [intOf]; omega
        · obtain rfl : k = i := by omega
          have hne := eq3_yes k3
          clear k3
          go_wp2_with (first
            | (go_at_call 70; (with_reducible refine (HGP.out _).mono ?_); rintro e wp ⟨Ap, cp, rfl, hon, hx⟩; have XP := Lib.hid hx; have BP := Lib.hid (B0.out.ext hx); obtain ⟨bp, op, rfl, hbp, cp0⟩ := (hon.rd).at_ (k := 0) (by omega); rw [HD.out, Nat.add_zero] at cp0; clear hon hx))
          have hb := Ext.refl wp
          obtain ⟨hc, hf⟩ := hb.old
          have hL := fun (x : Later _) => (Ext.trans hb x.ext).old.1
          refine wp_region_later (by kernel_rfl) (by kernel_rfl) ?_
          repeat (go_big_quiet_step ((fail)))
          refine wpQuiet_nil ?_
          intro w2 hw2
          replace hb := Ext.trans hb (Later.of hw2)
          clear hw2 hL
          obtain ⟨hc, hf⟩ := hb.old
          have B1 := Lib.hid (BP.out.ext hb); have X1 := Lib.hid ((X0.out.trans XP.out).trans hb)
          clear hb hc hf B0 X0 BP XP cp0
          have B0 := Lib.hid B1.out; have X0 := Lib.hid X1.out
          clear B1 X1
          go_wp2_with (first
            | (go_at_call 70; (with_reducible refine (HG.out _).mono ?_); rintro e w1 ⟨A, c, rfl, hon, hx⟩; have HN := Lib.hid hon; have X1 := Lib.hid hx; have B1 := Lib.hid (B0.out.ext hx); clear hon hx)
            | (go_at_call 71; (with_reducible refine (HV.out A c _ (HN.out.rd.ext (Ext.alloc _ _))).mono ?_); rintro e w2 ⟨rfl, hx⟩; obtain ⟨⟨r0, r1, r2⟩, rz⟩ := (B1.out.ext (Ext.alloc _ _)).ext hx; obtain ⟨⟨q0, q1, q2⟩, qz⟩ := (Bx.new w1 (.bool true) (.slice A (len (valD t.body)) c) (I q) 25).ext hx; have X2 := Lib.hid ((Ext.alloc w1 _).trans hx); have Y2 := Lib.hid hx; clear hx))
          have hlt : w.heap.size < w1.heap.size := B1.out.lt
          refine bodyPost_ret (v := .tuple #[dv false none 0 0 0, I 2]) (by simp [results, Tryz.results9, go_sem, r0, r1, r2]) rfl ⟨ext_set3 (X0.out.trans (X1.out.trans X2.out)) (Nat.le_refl _) _ _ _, .inr ⟨rfl, rfl⟩⟩


set_option maxRecDepth 100000 in
set_option maxHeartbeats 4000000 in
theorem rparse_valid_n (l : List UInt8) (w : World) (hl : l.length ≤ 65536) (hf : (txOf l).fr = false) (hb : decB (txOf l).body = true) (hm : len (valD (txOf l).body) ≤ 1048576) (hv : vld (txOf l).neg (len (valD (txOf l).body)) (dg (valD (txOf l).body)) (txOf l).den = true) : Calls Tryz.prog 9 #[.string (bs l)] w (RParseRes true (txOf l).neg (valD (txOf l).body) (txOf l).den w) := by
  obtain ⟨hl1, hl2, hl3⟩ := lens l
  have hs1 : (bs l).size ≤ 65536 := by rw [bs_size]; exact hl
  have hs2 : (bs (Lib.trimPrefix l [45])).size = (Lib.trimPrefix l [45]).length := bs_size _
  have HSG := Lib.hid (sign_at l)
  obtain ⟨k1, k2⟩ : (txOf l).body = Lib.trimPrefix l [45] ∧ ∀ k, k + 2 < (Lib.trimPrefix l [45]).length → ¬ (bs (Lib.trimPrefix l [45])).extract k (k + 3) = bs [47, 50, 94] := by
    rcases tx_at l with ⟨_, h2⟩ | ⟨i, h, _⟩
    · exact h2
    · rw [hf] at h; cases h
  have hden : (txOf l).den = 0 := by unfold TX.den; rw [if_neg (by rw [hf]; decide)]
  have HG := Lib.hid (fun w' => rdig_any (txOf l).body w' (by omega))
  have hv0 := hv
  rw [hden] at hv
  replace hv : vld (txOf l).neg (len (valD (txOf l).body)) (dg (valD (txOf l).body)) (0 : Int) = true := hv
  have HV := Lib.hid (fun A c w' (h : Rd w' A (len (valD (txOf l).body)) (dg (valD (txOf l).body))) => rvalid_any (txOf l).neg A (len (valD (txOf l).body)) c (0 : Int) (dg (valD (txOf l).body)) w' h (fun _ _ => dg_lt _ _) (by omega))
  rw [hv] at HV
  have hpk : (txOf l).powOk := fun h => by rw [hf] at h; cases h
  have HX : Hid (∀ A c w' (g : Nat), On w' g A (len (valD (txOf l).body)) c (dg (valD (txOf l).body)) → Calls Tryz.prog 72 #[dv (txOf l).neg A (len (valD (txOf l).body)) c (0 : Int)] w' fun e w'' => e = .returned (.string (bs l)) ∧ Ext w' w'') := by
    intro A c w' g h
    have h1 := rtext_any (Dy.valid (d := (txOf l).dv) h.rd h.ok (ok_of_vld hv0) (show len (valD (txOf l).body) ≤ _ by omega)) (show len (valD (txOf l).body) ≤ _ by omega)
    rw [txt_bs, text_back hb hpk] at h1
    have h0 : (((txOf l).dv.den : Nat) : Int) = (0 : Int) := by show (((txOf l).den : Nat) : Int) = _; first | (rw [hden]; done) | (rw [hden]; rfl)
    rw [h0] at h1
    exact h1
  have hdv : decV (txOf l).body = valD (txOf l).body := by unfold decV; rw [hb]; rfl
  unfold DigRes at HG
  rw [hb, hdv] at HG
  obtain ⟨S1, e1⟩ : ∃ S, bs l = S := ⟨_, rfl⟩
  rw [e1] at hs1 HX ⊢
  obtain ⟨S2, e2⟩ : ∃ S, bs (Lib.trimPrefix l [45]) = S := ⟨_, rfl⟩
  rw [e2] at hs2
  have HSG2 : Hid ((S1 = bs [] ∧ S2 = S1 ∧ (txOf l).neg = false) ∨ (∃ h : 0 < S1.size, ¬ ((S1[0]'h).toNat : Int) = 45 ∧ S2 = S1 ∧ (txOf l).neg = false) ∨ (∃ h : 0 < S1.size, ((S1[0]'h).toNat : Int) = 45 ∧ S1.extract 1 S1.size = S2 ∧ (txOf l).neg = true)) := by
    subst e1 e2
    rcases HSG.out with ⟨h, h2, h3⟩ | ⟨h, h1, h2, h3⟩ | ⟨h, h1, h2, h3⟩
    · exact .inl ⟨by rw [h], by rw [h2], h3⟩
    · exact .inr (.inl ⟨h, by omega, by rw [h2], h3⟩)
    · exact .inr (.inr ⟨h, by omega, h2, h3⟩)
  clear HSG
  rw [e2] at k2
  obtain ⟨n, hn⟩ : ∃ n, (Lib.trimPrefix l [45]).length = n := ⟨_, rfl⟩
  rw [hn] at hs2 k2 hl3
  rw [show bs (txOf l).body = S2 by rw [k1]; exact e2] at HG
  clear e1 e2 hn
  generalize txOf l = t at *
  generalize hng : t.neg = ng at *
  clear hng
  have hs3 : S1.size ≤ 65536 := by omega
  clear hs1 hl1 hl2 hb hdv hv hm hpk hv0 hf k1
  have B0 := Lib.hid (Bx.new w (.bool false) (.slice none 0 0) (I 0) 25)
  have X0 := Lib.hid (Ext.alloc w (.cells #[.bool false, .slice none 0 0, I 0] 25))
  have K2 := Lib.hid k2; clear k2
  have HDN := Lib.hid hden; clear hden
  have hs2' : (S2.size : Int) = n := by omega
  go_enter Tryz.func9, Tryz.ntmps9
  go_upto_region 4 with fail
  go_cut [4, 5, 24] (fun s4 s5 s24 wx => s4 = .string S1 ∧ s5 = .bool false ∧ s24 = .bool ng ∧ wx = w.alloc (.cells #[.bool false, .slice none 0 0, I 0] 25))
  case first =>
    clear B0 X0
    rcases HSG2.out with ⟨h, h2, h3⟩ | ⟨h, h1, h2, h3⟩ | ⟨h, h1, h2, h3⟩
    · have hne : S1.toList = [] := by rw [h, bs_toList]
      have hem : S1.toList.isEmpty = true := by rw [hne]; rfl
      clear h h2 HSG2
      go_wp2_with fail
      go_meet
      exact ⟨rfl, rfl, by rw [h3], rfl⟩
    · obtain ⟨hne, hem⟩ := ne_nil h
      have h4 : (0 : Int) < S1.size := by omega
      clear h2 HSG2
      go_wp2_with fail
      go_meet
      exact ⟨rfl, rfl, by rw [h3, beq_false_of_ne h1], rfl⟩
    · obtain ⟨hne, hem⟩ := ne_nil h
      have h4 : (0 : Int) < S1.size := by omega
      clear h2 HSG2
      go_wp2_with fail
      go_meet
      exact ⟨rfl, rfl, by rw [h3], rfl⟩
  case rest =>
    obtain ⟨rfl, rfl, rfl, rfl⟩ := hcut
    have HS3 : (ng = false ∧ S2 = S1) ∨ (ng = true ∧ S1.extract 1 S1.size = S2 ∧ 0 < S1.size) := by
      rcases HSG2.out with ⟨_, h2, h3⟩ | ⟨_, _, h2, h3⟩ | ⟨h, _, h2, h3⟩
      · exact .inl ⟨h3, h2⟩
      · exact .inl ⟨h3, h2⟩
      · exact .inr ⟨h3, h2, h⟩
    clear HSG2
    generalize w.alloc (.cells #[.bool false, .slice none 0 0, I 0] 25) = w0 at *
    rcases HS3 with ⟨h3, h2⟩ | ⟨h3, h2, h4⟩
    · subst h2
      subst h3
      go_wp2_with fail
      go_loopw [4, 6, 7] (fun s4 s6 c wr => w0 = wr ∧ s4 = .string S2 ∧ s6 = I 0 ∧ ∃ k : Nat, k ≤ n ∧ c = I k) (fun _ _ c _ => n - (intOf c).toNat)
      case atStart => exact ⟨rfl, rfl, rfl, 0, Nat.zero_le _, rfl⟩
      case round =>
        obtain ⟨rfl, rfl, rfl, k, hk, rfl⟩ := hrel
        by_cases hlt : k + 2 < n
        · have hne := eq3_no (K2.out k hlt)
          have hsl := slice3 S2 k (by omega)
          have hlt2 : (k : Int) + 2 < (n : Int) := by omega
          go_wp2_with fail
          go_roundw
          case rel => exact ⟨trivial, rfl, rfl, k + 1, by omega, by go_num⟩
          case measure => simp [intOf]; omega
        · have hlt2 : ¬ (k : Int) + 2 < (n : Int) := by omega
          rw [HDN.out]
          go_wp2_with (first
            | (go_at_call 70; (with_reducible refine (HG.out _).mono ?_); rintro e w1 ⟨A, c, rfl, hon, hx⟩; have HN := Lib.hid hon; have X1 := Lib.hid hx; have B1 := Lib.hid (B0.out.ext hx); clear hon hx)
            | (go_at_call 71; (with_reducible refine (HV.out A c _ (HN.out.rd.ext (Ext.alloc _ _))).mono ?_); rintro e w2 ⟨rfl, hx⟩; obtain ⟨⟨r0, r1, r2⟩, rz⟩ := (B1.out.ext (Ext.alloc _ _)).ext hx; obtain ⟨⟨q0, q1, q2⟩, qz⟩ := (Bx.new w1 (.bool false) (.slice A (len (valD t.body)) c) (I 0) 25).ext hx; have X2 := Lib.hid ((Ext.alloc w1 _).trans hx); have Y2 := Lib.hid hx; clear hx)
            | (go_at_call 72; (with_reducible refine (HX.out A c _ _ (HN.out.ext X2.out)).mono ?_); rintro e w3 ⟨rfl, hx⟩; clear r0 r1 r2 rz q0 q1 q2 qz; obtain ⟨⟨r0, r1, r2⟩, rz⟩ := (B1.out.ext X2.out).ext hx; obtain ⟨⟨q0, q1, q2⟩, qz⟩ := (Bx.new w1 (.bool false) (.slice A (len (valD t.body)) c) (I 0) 25).ext (Y2.out.trans hx); have X3 := Lib.hid (X2.out.trans hx); clear hx))
          have hlt : w.heap.size < w1.heap.size := B1.out.lt
          refine bodyPost_ret (v := .tuple #[dv false A (len (valD t.body)) c 0, I 0]) (by simp [results, Tryz.results9, go_sem, r0, r1, r2]) rfl ⟨ext_set3 (X0.out.trans (X1.out.trans X3.out)) (Nat.le_refl _) _ _ _, .inl ⟨rfl, A, c, by first | (rw [HDN.out]; done) | (rw [HDN.out]; rfl), ?_⟩⟩
          have hl0 := B0.out.lt
          exact ((((HN.out.ext X3.out).set hl0 _ _).set hl0 _ _).set hl0 _ _).mono (Nat.le_of_lt hl0)
    · subst h3
      have h5 : (1 : Int) ≤ S1.size := by omega
      have hs9 : (S1.size : Int) ≤ 65536 := by omega
      go_wp2_with fail
      clear h2 h4 h5
      go_loopw [4, 6, 7] (fun s4 s6 c wr => w0 = wr ∧ s4 = .string S2 ∧ s6 = I 0 ∧ ∃ k : Nat, k ≤ n ∧ c = I k) (fun _ _ c _ => n - (intOf c).toNat)
      case atStart => exact ⟨rfl, rfl, rfl, 0, Nat.zero_le _, rfl⟩
      case round =>
        obtain ⟨rfl, rfl, rfl, k, hk, rfl⟩ := hrel
        by_cases hlt : k + 2 < n
        · have hne := eq3_no (K2.out k hlt)
          have hsl := slice3 S2 k (by omega)
          have hlt2 : (k : Int) + 2 < (n : Int) := by omega
          go_wp2_with fail
          go_roundw
          case rel => exact ⟨trivial, rfl, rfl, k + 1, by omega, by go_num⟩
          case measure => simp [intOf]; omega
        · have hlt2 : ¬ (k : Int) + 2 < (n : Int) := by omega
          rw [HDN.out]
          go_wp2_with (first
            | (go_at_call 70; (with_reducible refine (HG.out _).mono ?_); rintro e w1 ⟨A, c, rfl, hon, hx⟩; have HN := Lib.hid hon; have X1 := Lib.hid hx; have B1 := Lib.hid (B0.out.ext hx); clear hon hx)
            | (go_at_call 71; (with_reducible refine (HV.out A c _ (HN.out.rd.ext (Ext.alloc _ _))).mono ?_); rintro e w2 ⟨rfl, hx⟩; obtain ⟨⟨r0, r1, r2⟩, rz⟩ := (B1.out.ext (Ext.alloc _ _)).ext hx; obtain ⟨⟨q0, q1, q2⟩, qz⟩ := (Bx.new w1 (.bool true) (.slice A (len (valD t.body)) c) (I 0) 25).ext hx; have X2 := Lib.hid ((Ext.alloc w1 _).trans hx); have Y2 := Lib.hid hx; clear hx)
            | (go_at_call 72; (with_reducible refine (HX.out A c _ _ (HN.out.ext X2.out)).mono ?_); rintro e w3 ⟨rfl, hx⟩; clear r0 r1 r2 rz q0 q1 q2 qz; obtain ⟨⟨r0, r1, r2⟩, rz⟩ := (B1.out.ext X2.out).ext hx; obtain ⟨⟨q0, q1, q2⟩, qz⟩ := (Bx.new w1 (.bool true) (.slice A (len (valD t.body)) c) (I 0) 25).ext (Y2.out.trans hx); have X3 := Lib.hid (X2.out.trans hx); clear hx))
          have hlt : w.heap.size < w1.heap.size := B1.out.lt
          refine bodyPost_ret (v := .tuple #[dv true A (len (valD t.body)) c 0, I 0]) (by simp [results, Tryz.results9, go_sem, r0, r1, r2]) rfl ⟨ext_set3 (X0.out.trans (X1.out.trans X3.out)) (Nat.le_refl _) _ _ _, .inl ⟨rfl, A, c, by first | (rw [HDN.out]; done) | (rw [HDN.out]; rfl), ?_⟩⟩
          have hl0 := B0.out.lt
          exact ((((HN.out.ext X3.out).set hl0 _ _).set hl0 _ _).set hl0 _ _).mono (Nat.le_of_lt hl0)


set_option maxRecDepth 100000 in
set_option maxHeartbeats 4000000 in
theorem rparse_valid_p (l : List UInt8) (w : World) (hl : l.length ≤ 65536) (hf : (txOf l).fr = true) (hp : (txOf l).powR) (hb : decB (txOf l).body = true) (hm : len (valD (txOf l).body) ≤ 1048576) (hv : vld (txOf l).neg (len (valD (txOf l).body)) (dg (valD (txOf l).body)) (txOf l).den = true) : Calls Tryz.prog 9 #[.string (bs l)] w (RParseRes true (txOf l).neg (valD (txOf l).body) (txOf l).den w) := by
  obtain ⟨hl1, hl2, hl3⟩ := lens l
  have hs1 : (bs l).size ≤ 65536 := by rw [bs_size]; exact hl
  have hs2 : (bs (Lib.trimPrefix l [45])).size = (Lib.trimPrefix l [45]).length := bs_size _
  have HSG := Lib.hid (sign_at l)
  obtain ⟨i, k1, k2, k3, k5, k6⟩ : ∃ i : Nat, (bs (Lib.trimPrefix l [45])).extract 0 i = bs (txOf l).body ∧ (bs (Lib.trimPrefix l [45])).extract (i + 3) (Lib.trimPrefix l [45]).length = bs (txOf l).pow ∧
      (bs (Lib.trimPrefix l [45])).extract i (i + 3) = bs [47, 50, 94] ∧ i + 3 ≤ (Lib.trimPrefix l [45]).length ∧ ∀ k, k < i → ¬ (bs (Lib.trimPrefix l [45])).extract k (k + 3) = bs [47, 50, 94] := by
    rcases tx_at l with ⟨h, _⟩ | ⟨i, _, h2⟩
    · rw [hf] at h; cases h
    · exact ⟨i, h2⟩
  obtain ⟨p1, p2, p3⟩ := hp hf
  have hden : (txOf l).den = valD (txOf l).pow := by unfold TX.den; rw [if_pos hf]
  have HGP := Lib.hid (fun w' => rdig_any (txOf l).pow w' (by omega))
  have HG := Lib.hid (fun w' => rdig_any (txOf l).body w' (by omega))
  have hv0 := hv
  rw [hden] at hv
  replace hv : vld (txOf l).neg (len (valD (txOf l).body)) (dg (valD (txOf l).body)) ((valD (txOf l).pow : Nat) : Int) = true := hv
  have HV := Lib.hid (fun A c w' (h : Rd w' A (len (valD (txOf l).body)) (dg (valD (txOf l).body))) => rvalid_any (txOf l).neg A (len (valD (txOf l).body)) c ((valD (txOf l).pow : Nat) : Int) (dg (valD (txOf l).body)) w' h (fun _ _ => dg_lt _ _) (by omega))
  rw [hv] at HV
  have hpk : (txOf l).powOk := fun _ => ⟨p1, p2, by omega⟩
  have HX : Hid (∀ A c w' (g : Nat), On w' g A (len (valD (txOf l).body)) c (dg (valD (txOf l).body)) → Calls Tryz.prog 72 #[dv (txOf l).neg A (len (valD (txOf l).body)) c ((valD (txOf l).pow : Nat) : Int)] w' fun e w'' => e = .returned (.string (bs l)) ∧ Ext w' w'') := by
    intro A c w' g h
    have h1 := rtext_any (Dy.valid (d := (txOf l).dv) h.rd h.ok (ok_of_vld hv0) (show len (valD (txOf l).body) ≤ _ by omega)) (show len (valD (txOf l).body) ≤ _ by omega)
    rw [txt_bs, text_back hb hpk] at h1
    have h0 : (((txOf l).dv.den : Nat) : Int) = ((valD (txOf l).pow : Nat) : Int) := by show (((txOf l).den : Nat) : Int) = _; first | (rw [hden]; done) | (rw [hden]; rfl)
    rw [h0] at h1
    exact h1
  have hdv : decV (txOf l).body = valD (txOf l).body := by unfold decV; rw [hb]; rfl
  unfold DigRes at HG
  rw [hb, hdv] at HG
  have hpv : decV (txOf l).pow = valD (txOf l).pow := by unfold decV; rw [p1]; rfl
  unfold DigRes at HGP
  rw [p1, hpv] at HGP
  have hl1' : len (valD (txOf l).pow) = 1 := by
    have a : len (valD (txOf l).pow) ≤ 1 := len_le (by show _ < 4294967296 ^ 1; omega)
    have b : len (valD (txOf l).pow) ≠ 0 := fun e => by have := len_eq_zero.1 e; omega
    omega
  have hdg : dg (valD (txOf l).pow) 0 = valD (txOf l).pow := by rw [dg_zero]; omega
  rw [hl1'] at HGP
  obtain ⟨S1, e1⟩ : ∃ S, bs l = S := ⟨_, rfl⟩
  rw [e1] at hs1 HX ⊢
  obtain ⟨S2, e2⟩ : ∃ S, bs (Lib.trimPrefix l [45]) = S := ⟨_, rfl⟩
  rw [e2] at hs2
  have HSG2 : Hid ((S1 = bs [] ∧ S2 = S1 ∧ (txOf l).neg = false) ∨ (∃ h : 0 < S1.size, ¬ ((S1[0]'h).toNat : Int) = 45 ∧ S2 = S1 ∧ (txOf l).neg = false) ∨ (∃ h : 0 < S1.size, ((S1[0]'h).toNat : Int) = 45 ∧ S1.extract 1 S1.size = S2 ∧ (txOf l).neg = true)) := by
    subst e1 e2
    rcases HSG.out with ⟨h, h2, h3⟩ | ⟨h, h1, h2, h3⟩ | ⟨h, h1, h2, h3⟩
    · exact .inl ⟨by rw [h], by rw [h2], h3⟩
    · exact .inr (.inl ⟨h, by omega, by rw [h2], h3⟩)
    · exact .inr (.inr ⟨h, by omega, h2, h3⟩)
  clear HSG
  rw [e2] at k1 k2 k3 k6
  obtain ⟨n, hn⟩ : ∃ n, (Lib.trimPrefix l [45]).length = n := ⟨_, rfl⟩
  rw [hn] at hs2 k2 k5 hl3
  clear e1 e2 hn
  generalize txOf l = t at *
  generalize hng : t.neg = ng at *
  clear hng
  obtain ⟨S3, e3⟩ : ∃ S, bs t.body = S := ⟨_, rfl⟩
  obtain ⟨S4, e4⟩ : ∃ S, bs t.pow = S := ⟨_, rfl⟩
  rw [e3] at HG k1
  rw [e4] at HGP k2
  have HD := Lib.hid hdg; have HDN := Lib.hid hden
  generalize hq : valD t.pow = q at *
  have hs3 : S1.size ≤ 65536 := by omega
  clear hs1 hl1 hl2 hb hdv hv hm hpk hv0 hp hf hpv e3 e4 hdg hden p1 hl1' hq
  have B0 := Lib.hid (Bx.new w (.bool false) (.slice none 0 0) (I 0) 25)
  have X0 := Lib.hid (Ext.alloc w (.cells #[.bool false, .slice none 0 0, I 0] 25))
  have K6 := Lib.hid k6; clear k6
  have hs2' : (S2.size : Int) = n := by omega
  go_enter Tryz.func9, Tryz.ntmps9
  go_upto_region 4 with fail
  go_cut [4, 5, 24] (fun s4 s5 s24 wx => s4 = .string S1 ∧ s5 = .bool false ∧ s24 = .bool ng ∧ wx = w.alloc (.cells #[.bool false, .slice none 0 0, I 0] 25))
  case first =>
    clear B0 X0
    rcases HSG2.out with ⟨h, h2, h3⟩ | ⟨h, h1, h2, h3⟩ | ⟨h, h1, h2, h3⟩
    · have hne : S1.toList = [] := by rw [h, bs_toList]
      have hem : S1.toList.isEmpty = true := by rw [hne]; rfl
      clear h h2 HSG2
      go_wp2_with fail
      go_meet
      exact ⟨rfl, rfl, by rw [h3], rfl⟩
    · obtain ⟨hne, hem⟩ := ne_nil h
      have h4 : (0 : Int) < S1.size := by omega
      clear h2 HSG2
      go_wp2_with fail
      go_meet
      exact ⟨rfl, rfl, by rw [h3, beq_false_of_ne h1], rfl⟩
    · obtain ⟨hne, hem⟩ := ne_nil h
      have h4 : (0 : Int) < S1.size := by omega
      clear h2 HSG2
      go_wp2_with fail
      go_meet
      exact ⟨rfl, rfl, by rw [h3], rfl⟩
  case rest =>
    obtain ⟨rfl, rfl, rfl, rfl⟩ := hcut
    have HS3 : (ng = false ∧ S2 = S1) ∨ (ng = true ∧ S1.extract 1 S1.size = S2 ∧ 0 < S1.size) := by
      rcases HSG2.out with ⟨_, h2, h3⟩ | ⟨_, _, h2, h3⟩ | ⟨h, _, h2, h3⟩
      · exact .inl ⟨h3, h2⟩
      · exact .inl ⟨h3, h2⟩
      · exact .inr ⟨h3, h2, h⟩
    clear HSG2
    generalize w.alloc (.cells #[.bool false, .slice none 0 0, I 0] 25) = w0 at *
    rcases HS3 with ⟨h3, h2⟩ | ⟨h3, h2, h4⟩
    · subst h2
      subst h3
      go_wp2_with fail
      go_loopw [4, 6, 7] (fun s4 s6 c wr => w0 = wr ∧ s4 = .string S2 ∧ s6 = I 0 ∧ ∃ k : Nat, k ≤ i ∧ c = I k) (fun _ _ c _ => i - (intOf c).toNat)
      case atStart => exact ⟨rfl, rfl, rfl, 0, Nat.zero_le _, rfl⟩
      case round =>
        obtain ⟨rfl, rfl, rfl, k, hk, rfl⟩ := hrel
        have hlt2 : (k : Int) + 2 < (n : Int) := by omega
        have hsl := slice3 S2 k (by omega)
        by_cases hlt : k < i
        · have hne := eq3_no (K6.out k hlt)
          go_wp2_with fail
          go_roundw
          case rel => exact ⟨trivial, rfl, rfl, k + 1, by omega, by go_num⟩
          case measure => simp [intOf]; omega
        · obtain rfl : k = i := by omega
          have hne := eq3_yes k3
          clear k3
          go_wp2_with (first
            | (go_at_call 70; (with_reducible refine (HGP.out _).mono ?_); rintro e wp ⟨Ap, cp, rfl, hon, hx⟩; have XP := Lib.hid hx; have BP := Lib.hid (B0.out.ext hx); obtain ⟨bp, op, rfl, hbp, cp0⟩ := (hon.rd).at_ (k := 0) (by omega); rw [HD.out, Nat.add_zero] at cp0; clear hon hx))
          have hb := Ext.refl wp
          obtain ⟨hc, hf⟩ := hb.old
          have hL := fun (x : Later _) => (Ext.trans hb x.ext).old.1
          refine wp_region_later (by kernel_rfl) (by kernel_rfl) ?_
          repeat (go_big_quiet_step ((fail)))
          refine wpQuiet_nil ?_
          intro w2 hw2
          replace hb := Ext.trans hb (Later.of hw2)
          clear hw2 hL
          obtain ⟨hc, hf⟩ := hb.old
          have B1 := Lib.hid (BP.out.ext hb); have X1 := Lib.hid ((X0.out.trans XP.out).trans hb)
          clear hb hc hf B0 X0 BP XP cp0
          have B0 := Lib.hid B1.out; have X0 := Lib.hid X1.out
          clear B1 X1
          go_wp2_with (first
            | (go_at_call 70; (with_reducible refine (HG.out _).mono ?_); rintro e w1 ⟨A, c, rfl, hon, hx⟩; have HN := Lib.hid hon; have X1 := Lib.hid hx; have B1 := Lib.hid (B0.out.ext hx); clear hon hx)
            | (go_at_call 71; (with_reducible refine (HV.out A c _ (HN.out.rd.ext (Ext.alloc _ _))).mono ?_); rintro e w2 ⟨rfl, hx⟩; obtain ⟨⟨r0, r1, r2⟩, rz⟩ := (B1.out.ext (Ext.alloc _ _)).ext hx; obtain ⟨⟨q0, q1, q2⟩, qz⟩ := (Bx.new w1 (.bool false) (.slice A (len (valD t.body)) c) (I q) 25).ext hx; have X2 := Lib.hid ((Ext.alloc w1 _).trans hx); have Y2 := Lib.hid hx; clear hx)
            | (go_at_call 72; (with_reducible refine (HX.out A c _ _ (HN.out.ext X2.out)).mono ?_); rintro e w3 ⟨rfl, hx⟩; clear r0 r1 r2 rz q0 q1 q2 qz; obtain ⟨⟨r0, r1, r2⟩, rz⟩ := (B1.out.ext X2.out).ext hx; obtain ⟨⟨q0, q1, q2⟩, qz⟩ := (Bx.new w1 (.bool false) (.slice A (len (valD t.body)) c) (I q) 25).ext (Y2.out.trans hx); have X3 := Lib.hid (X2.out.trans hx); clear hx))
          have hlt : w.heap.size < w1.heap.size := B1.out.lt
          refine bodyPost_ret (v := .tuple #[dv false A (len (valD t.body)) c q, I 0]) (by simp [results, Tryz.results9, go_sem, r0, r1, r2]) rfl ⟨ext_set3 (X0.out.trans (X1.out.trans X3.out)) (Nat.le_refl _) _ _ _, .inl ⟨rfl, A, c, by first | (rw [HDN.out]; done) | (rw [HDN.out]; rfl), ?_⟩⟩
          have hl0 := B0.out.lt
          exact ((((HN.out.ext X3.out).set hl0 _ _).set hl0 _ _).set hl0 _ _).mono (Nat.le_of_lt hl0)
    · subst h3
      have h5 : (1 : Int) ≤ S1.size := by omega
      have hs9 : (S1.size : Int) ≤ 65536 := by omega
      go_wp2_with fail
      clear h2 h4 h5
      go_loopw [4, 6, 7] (fun s4 s6 c wr => w0 = wr ∧ s4 = .string S2 ∧ s6 = I 0 ∧ ∃ k : Nat, k ≤ i ∧ c = I k) (fun _ _ c _ => i - (intOf c).toNat)
      case atStart => exact ⟨rfl, rfl, rfl, 0, Nat.zero_le _, rfl⟩
      case round =>
        obtain ⟨rfl, rfl, rfl, k, hk, rfl⟩ := hrel
        have hlt2 : (k : Int) + 2 < (n : Int) := by omega
        have hsl := slice3 S2 k (by omega)
        by_cases hlt : k < i
        · have hne := eq3_no (K6.out k hlt)
          go_wp2_with fail
          go_roundw
          case rel => exact ⟨trivial, rfl, rfl, k + 1, by omega, by go_num⟩
          case measure => simp [intOf]; omega
        · obtain rfl : k = i := by omega
          have hne := eq3_yes k3
          clear k3
          go_wp2_with (first
            | (go_at_call 70; (with_reducible refine (HGP.out _).mono ?_); rintro e wp ⟨Ap, cp, rfl, hon, hx⟩; have XP := Lib.hid hx; have BP := Lib.hid (B0.out.ext hx); obtain ⟨bp, op, rfl, hbp, cp0⟩ := (hon.rd).at_ (k := 0) (by omega); rw [HD.out, Nat.add_zero] at cp0; clear hon hx))
          have hb := Ext.refl wp
          obtain ⟨hc, hf⟩ := hb.old
          have hL := fun (x : Later _) => (Ext.trans hb x.ext).old.1
          refine wp_region_later (by kernel_rfl) (by kernel_rfl) ?_
          repeat (go_big_quiet_step ((fail)))
          refine wpQuiet_nil ?_
          intro w2 hw2
          replace hb := Ext.trans hb (Later.of hw2)
          clear hw2 hL
          obtain ⟨hc, hf⟩ := hb.old
          have B1 := Lib.hid (BP.out.ext hb); have X1 := Lib.hid ((X0.out.trans XP.out).trans hb)
          clear hb hc hf B0 X0 BP XP cp0
          have B0 := Lib.hid B1.out; have X0 := Lib.hid X1.out
          clear B1 X1
          go_wp2_with (first
            | (go_at_call 70; (with_reducible refine (HG.out _).mono ?_); rintro e w1 ⟨A, c, rfl, hon, hx⟩; have HN := Lib.hid hon; have X1 := Lib.hid hx; have B1 := Lib.hid (B0.out.ext hx); clear hon hx)
            | (go_at_call 71; (with_reducible refine (HV.out A c _ (HN.out.rd.ext (Ext.alloc _ _))).mono ?_); rintro e w2 ⟨rfl, hx⟩; obtain ⟨⟨r0, r1, r2⟩, rz⟩ := (B1.out.ext (Ext.alloc _ _)).ext hx; obtain ⟨⟨q0, q1, q2⟩, qz⟩ := (Bx.new w1 (.bool true) (.slice A (len (valD t.body)) c) (I q) 25).ext hx; have X2 := Lib.hid ((Ext.alloc w1 _).trans hx); have Y2 := Lib.hid hx; clear hx)
            | (go_at_call 72; (with_reducible refine (HX.out A c _ _ (HN.out.ext X2.out)).mono ?_); rintro e w3 ⟨rfl, hx⟩; clear r0 r1 r2 rz q0 q1 q2 qz; obtain ⟨⟨r0, r1, r2⟩, rz⟩ := (B1.out.ext X2.out).ext hx; obtain ⟨⟨q0, q1, q2⟩, qz⟩ := (Bx.new w1 (.bool true) (.slice A (len (valD t.body)) c) (I q) 25).ext (Y2.out.trans hx); have X3 := Lib.hid (X2.out.trans hx); clear hx))
          have hlt : w.heap.size < w1.heap.size := B1.out.lt
          refine bodyPost_ret (v := .tuple #[dv true A (len (valD t.body)) c q, I 0]) (by simp [results, Tryz.results9, go_sem, r0, r1, r2]) rfl ⟨ext_set3 (X0.out.trans (X1.out.trans X3.out)) (Nat.le_refl _) _ _ _, .inl ⟨rfl, A, c, by first | (rw [HDN.out]; done) | (rw [HDN.out]; rfl), ?_⟩⟩
          have hl0 := B0.out.lt
          exact ((((HN.out.ext X3.out).set hl0 _ _).set hl0 _ _).set hl0 _ _).mono (Nat.le_of_lt hl0)
end Go.Proofs.YtlnphamgmicniaaGreatDoor
