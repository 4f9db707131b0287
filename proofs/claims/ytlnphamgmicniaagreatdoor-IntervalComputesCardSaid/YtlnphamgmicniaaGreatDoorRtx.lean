/- The reference's decimal. -/
import Derived.Test.YtlnphamgmicniaaGreatDoorMdtx
import Derived.Test.YtlnphamgmicniaaGreatDoorMref
import Derived.Test.YtlnphamgmicniaaGreatDoorMreff
import Derived.Laws.AppendOwnNone
import Derived.Laws.IdiomStrings
import Derived.Lib.BufferWrite
import Derived.Deep.Onto
import Derived.Test.YtlnphamgmicniaaGreatDoorRefh
namespace Go.Proofs.YtlnphamgmicniaaGreatDoor

/-! ### Rdc -/
section
open Go.RowKit

/-- Bytes in memory of one's own. -/
def OnB (w : World) (base : Nat) (A : Option Addr) (c : Nat) (l : List UInt8) : Prop := w.ownsRow base 5 1 (.slice A l.length c) l.length (Lib.byteCells l)
theorem OnB.cases {w : World} {base c : Nat} {A : Option Addr} {l : List UInt8} (h : OnB w base A c l) : (A = none ∧ l.length = 0 ∧ c = 0) ∨ ∃ g, A = some ⟨g, 0, none⟩ ∧ base ≤ g := by
  rcases h.2 with ⟨h1, h2⟩ | ⟨g, cap, cur, h1, h2, _⟩
  · injection h1 with h1 h3 h4; exact .inl ⟨h1, h2, h4⟩
  · injection h1 with h1 h3 h4; exact .inr ⟨g, h1, h2⟩
theorem OnB.cells {w : World} {base c g : Nat} {l : List UInt8} (h : OnB w base (some ⟨g, 0, none⟩) c l) : ∀ j u, (Lib.byteCells l)[j]? = some u → w.cell? ((⟨g, 0, none⟩ : Addr).add j) = some u := World.ownsRow.cells h rfl
theorem OnB.ext {w w' : World} {base c : Nat} {A : Option Addr} {l : List UInt8} (h : OnB w base A c l) (e : Ext w w') : OnB w' base A c l := World.ownsRow.kept h (fr_of_ext e) (by cases A with | none => exact .inl rfl | some a => exact .inr (by simp [Value.ownBlock]))
theorem OnB.bytes {w : World} {base c g : Nat} {l : List UInt8} (h : OnB w base (some ⟨g, 0, none⟩) c l) : ∀ j (hj : j < l.length), w.cell? ((⟨g, 0, none⟩ : Addr).add j) = some (.int .u8 (l[j].toNat : Int)) := fun j hj =>
  h.cells j _ (by simp [Lib.byteCells, hj])

theorem dec_step {r i low d : Nat} (hlow : r / pB (i + 1) % 10 = low) (hd : dg r i = d) : r / pB i / 10 = r / pB (i + 1) / 10 * 4294967296 + (low * 4294967296 + d) / 10 ∧ r / pB i % 10 = (low * 4294967296 + d) % 10 :=
  div_step (B := 4294967296) (by decide) hlow hd
/-- How far the digits have come: l holds the last ones, r is what is left. -/
def DecInv (m r : Nat) (l : List UInt8) : Prop := (l = [] ∧ r = m) ∨ (l ≠ [] ∧ if r = 0 then l = Lib.decDigits m else Lib.decDigits r ++ l = Lib.decDigits m)
theorem dec_ne (u : Nat) : Lib.decDigits u ≠ [] := by
  by_cases h : u < 10
  · rw [dec_small h]; simp
  · rw [dec_big h]; simp
theorem decInv_step {m r : Nat} {l : List UInt8} (h : DecInv m r l) (hr : ¬ (r = 0 ∧ l ≠ [])) : DecInv m (r / 10) (UInt8.ofNat (48 + r % 10) :: l) ∧ l.length < (Lib.decDigits m).length := by
  have key : Lib.decDigits r ++ l = Lib.decDigits m := by
    rcases h with ⟨rfl, rfl⟩ | ⟨h1, h2⟩
    · simp
    · rw [if_neg (fun e => hr ⟨e, h1⟩)] at h2; exact h2
  have hlen : l.length < (Lib.decDigits m).length := by
    rw [← key, List.length_append]
    have : (Lib.decDigits r).length ≠ 0 := fun e => dec_ne r (List.length_eq_zero_iff.1 e)
    omega
  refine ⟨.inr ⟨by simp, ?_⟩, hlen⟩
  by_cases h10 : r < 10
  · rw [if_pos (by omega), ← key, dec_small h10, show r % 10 = r by omega]; rfl
  · rw [if_neg (by omega), ← key, dec_big h10, List.append_assoc]; rfl
theorem byte_of {x : Nat} (h : x < 10) : (UInt8.ofNat (48 + x)).toNat = 48 + x := by
  rw [UInt8.toNat_ofNat']; omega

theorem dec_len {m : Nat} (h : len m ≤ 1048576) : (Lib.decDigits m).length ≤ 20000000 := by
  by_cases h0 : m = 0
  · rw [h0, dec_small (by omega)]; simp
  · have hn : gl m ≠ 0 := by rw [gl_pos h0]; omega
    have t := top_len (m := m) (n := gl m) (i := gl m) rfl (by omega) (Nat.le_refl _)
    rw [Nat.sub_self, Nat.pow_zero, Nat.div_one] at t
    have := gl_words m
    omega
theorem sliceB {w : World} {b n : Nat} {e : TypeId} {v : Value} {l : List Value} (h : w.ownsRow b e 1 v n l) (hn : n ≠ 0) : ∃ g c, v = .slice (some ⟨g, 0, none⟩) n c ∧ b ≤ g := by
  rcases h.2 with ⟨_, hz⟩ | ⟨g, cap, cur, h1, h2, _⟩
  · exact absurd hz hn
  · exact ⟨g, cap, h1, h2⟩
theorem cells_cons {x : Nat} (h : x < 10) (l : List UInt8) : [Value.int .u8 (48 + (x : Int))] ++ Lib.byteCells l = Lib.byteCells (UInt8.ofNat (48 + x) :: l) := by
  have : ((UInt8.ofNat (48 + x)).toNat : Int) = 48 + (x : Int) := by rw [byte_of h]; omega
  simp only [Lib.byteCells, List.map_cons, this, List.singleton_append]

set_option maxRecDepth 100000 in
set_option maxHeartbeats 4000000 in
theorem rdecimal_any (A : Option Addr) (m c : Nat) (w : World) (hr : Rd w A (len m) (dg m)) (hok : SlOk A (len m) c) (hL : len m ≤ 1048576) :
    Calls Tryz.prog 114 #[.slice A (len m) c] w fun e w' => e = .returned (.string (digB m)) ∧ Ext w w' := by
  have HR := Lib.hid hr; have HOK := Lib.hid hok; clear hr hok
  obtain ⟨i0, hi0, hz0, hz1, hz2⟩ := info_parts infoU
  obtain ⟨i1, hi1, hy0, hy1, hy2⟩ := info_parts infoBy
  have HLM := Lib.hid hL
  obtain ⟨K, hK⟩ : ∃ K, len m = K := ⟨_, rfl⟩
  rw [hK] at HR HOK hL ⊢
  have HK := Lib.hid hK; clear hK
  go_enter Tryz.func114, Tryz.ntmps114
  go_upto_region 1 with fail
  go_cut [0] (fun s0 wx => ∃ g c1, s0 = .slice (some ⟨g, 0, none⟩) K c1 ∧ Hid (Row wx w.heap.size g K c1 (dg m)) ∧ Hid (Ext w wx))
  case first =>
    cases A with
    | none =>
      obtain ⟨hz, hcz⟩ := HOK.out.2.2 rfl
      subst hz hcz
      go_wp2_with (at_builtin; refine wpList_append_own_none rfl _ _ _ rfl w.heap.size 80 i0 1 Tryz.underlying23 hi0 (.slice (some ⟨w.heap.size, 0, none⟩) 0 0) 0 [] rfl (World.ownsRow_made w #[] 0 (Nat.le_refl _) (Nat.zero_le _) rfl) rfl ?_)
      go_meet
      exact ⟨w.heap.size, 0, rfl, World.ownsRow_made w #[] 0 (Nat.le_refl _) (Nat.zero_le _) rfl, Ext.alloc _ _⟩
    | some ad =>
      have HN := Lib.hid (news_rd HR.out 80)
      go_wp2_with (at_builtin; refine wpList_append_own _ rfl _ _ _ rfl w.heap.size 80 i0 _ 1 4 Tryz.underlying23 hi0 hz0 hz1 hz2 rfl (by omega) (.slice (some ⟨w.heap.size, 0, none⟩) 0 0) 0 [] rfl (World.ownsRow_made w #[] 0 (Nat.le_refl _) (Nat.zero_le _) rfl) ad K c (wl (dg m) K) rfl (by rw [wl_len]; omega) HN.out (by intro u hu; unfold wl at hu; simp at hu; obtain ⟨_, _, rfl⟩ := hu; rfl) (by unfold maxLen; omega) (by omega) (by simp) ?_; intro v1 w3 hown1 hg1 hnn; rw [Nat.zero_add, List.nil_append] at hown1; obtain ⟨A1, c1, rfl⟩ := slice_of_owns hown1; have HX3 : Hid (Ext w w3) := Below.grown (Ext.alloc w _) hg1 (by simp) (fun k hk => by simp [Value.ownBlock] at hk; omega); have HO3 : Hid (On w3 w.heap.size A1 K c1 (dg m)) := hown1; have HNN := Lib.hid hnn; clear hown1 hg1 hnn)
      go_meet
      rcases HO3.out.cases with ⟨e1, e2, e3⟩ | ⟨g, e1, hrow⟩
      · exfalso
        subst e1 e2 e3
        have := (HNN.out.1 rfl).1
        cases this
      · subst e1
        exact ⟨g, c1, rfl, hrow, HX3.out⟩
  case rest =>
    obtain ⟨g, c1, rfl, hR0, hX0⟩ := hcut
    rw [← HK.out] at hR0
    rw [← HK.out]
    clear HR HOK
    have hg : Hid (w.heap.size ≤ g) := hR0.out.lt.1
    go_wp2_with fail
    go_loopw [0, 3] (fun s0 s3 wr => Hid (Ext w wr) ∧ ∃ (r : Nat) (l : List UInt8) (Ab : Option Addr) (cb : Nat), s0 = .slice (some ⟨g, 0, none⟩) (len r) c1 ∧ s3 = .slice Ab l.length cb ∧ r ≤ m ∧ Hid (Row wr w.heap.size g (len r) c1 (dg r)) ∧ Hid (OnB wr w.heap.size Ab cb l) ∧ Hid (∀ ad, Ab = some ad → ad.block ≠ g) ∧ Hid (DecInv m r l)) (fun _ s3 _ => (Lib.decDigits m).length - slen s3)
    case atStart => exact ⟨hX0, m, [], none, 0, rfl, rfl, Nat.le_refl _, hR0, World.ownsRow_nil _ _ _ _, (fun _ h => by cases h), .inl ⟨rfl, rfl⟩⟩
    case round =>
      clear hX0 hR0
      obtain ⟨hX, r, l, Ab, cb, rfl, rfl, hrm, hR, hB, hne, hD⟩ := hrel
      by_cases hend : r = 0 ∧ l ≠ []
      · obtain ⟨rfl, hl⟩ := hend
        have hl0 : len 0 = 0 := len_zero
        have hll : l.length ≠ 0 := fun e => hl (List.length_eq_zero_iff.1 e)
        have hlm : l = Lib.decDigits m := by
          rcases hD.out with ⟨h1, _⟩ | ⟨_, h2⟩
          · exact absurd h1 hl
          · rw [if_pos rfl] at h2; exact h2
        rcases hB.out.cases with ⟨e1, e2, e3⟩ | ⟨gb, e1, hgb⟩
        · exact absurd e2 hll
        · subst e1
          have hcv := run_convert_bytes_back (P := Tryz.prog) wr 106 9 5 ⟨gb, 0, none⟩ cb l Tryz.underlying106 Tryz.underlying5 Tryz.underlying9 hB.out.bytes
          have HV : Hid ((⟨l.toArray⟩ : ByteArray) = digB m) := by show _ = _; rw [hlm]; rfl
          have hl1 : ((l.length : Int) == 0) = false := by simp; omega
          rw [hl0]
          clear hlm
          go_wp2_with fail
          go_ret
          exact ⟨by rw [← HV.out]; rfl, hX.out⟩
      · have hNX := Lib.hid (decInv_step hD.out hend)
        obtain ⟨L, hLe⟩ : ∃ L, len r = L := ⟨_, rfl⟩
        have hLm : L ≤ 1048576 := by
          have := len_mono hrm
          have := HLM.out
          omega
        have hgo : ¬ (0 : Int) < (L : Int) → l.length = 0 := fun h => by
          have hr0 : r = 0 := len_eq_zero.1 (by omega)
          by_cases hl : l = []
          · rw [hl]; rfl
          · exact absurd ⟨hr0, hl⟩ hend
        have hlen : l.length < (Lib.decDigits m).length := hNX.out.2
        rw [hLe] at hR
        rw [hLe]
        have HLe := Lib.hid hLe
        have HLL : Hid (r / pB L = 0) := Nat.div_eq_of_lt (lt_pB (by rw [hLe]; exact Nat.le_refl _))
        clear hLe hend hD
        have hcase : (0 : Int) < (L : Int) ∨ (¬ (0 : Int) < (L : Int) ∧ ((l.length : Int) == 0) = true) := by
          by_cases h : (0 : Int) < (L : Int)
          · exact .inl h
          · exact .inr ⟨h, by rw [hgo h]; rfl⟩
        clear hgo
        rcases hcase with hL1 | ⟨hL1, hl1⟩
        · go_wp2_with fail
          go_loopw [4, 5] (fun s4 s5 wq => Hid (Ext w wq) ∧ ∃ (i low : Nat) (G : Nat → Nat), i ≤ L ∧ s5 = I ((i : Int) - 1) ∧ s4 = U8 low ∧ low < 10 ∧ Hid (r / pB i % 10 = low) ∧ Hid (Row wq w.heap.size g L c1 G) ∧ Hid (OnB wq w.heap.size Ab cb l) ∧ Hid (∀ k, k < i → G k = dg r k) ∧ Hid (∀ k, i ≤ k → G k = dg (r / pB i / 10) (k - i) ∨ L ≤ k)) (fun _ s5 _ => (intOf s5 + 1).toNat)
          case atStart =>
            refine ⟨hX, L, 0, dg r, Nat.le_refl _, rfl, rfl, by omega, ?_, hR, hB, fun _ _ => rfl, fun k hk => .inr hk⟩
            show _ = _
            rw [HLL.out]
          case round =>
            clear hX hR hB HLL
            obtain ⟨hX, i, low, G, hi, rfl, rfl, hlow, hl, hR, hB, hK, hQ⟩ := hrel
            cases i with
            | succ i =>
              have c2 := hR.out.cell (k := i) (by omega)
              have f2 := hR.out.frozen i
              have hxl := dg_lt r i
              have hgi := hK.out i (by omega)
              rw [hgi] at c2
              obtain ⟨d, hd⟩ : ∃ d, dg r i = d := ⟨_, rfl⟩
              rw [hd] at c2 hxl
              obtain ⟨s1, s2⟩ := dec_step hl.out hd
              obtain ⟨t, ht⟩ : ∃ t, low * 4294967296 + d = t := ⟨_, rfl⟩
              have htb : t < 42949672960 := by omega
              have hqb : t / 10 < 4294967296 := by omega
              rw [ht] at s1 s2
              have eor : bits BinOp.or IntKind.u64 ((low : Int) * 4294967296) (d : Int) = (t : Int) := by
                rw [show (low : Int) * 4294967296 = ((low * 4294967296 : Nat) : Int) by omega, or_nat64 (by omega) (by omega)]
                have h := or_add (a := d) (b := low) (p := 32) (by omega)
                rw [Nat.or_comm, show (4294967296 : Nat) = 2 ^ 32 by decide, h]; omega
              obtain ⟨q, hq⟩ : ∃ q, t / 10 = q := ⟨_, rfl⟩
              obtain ⟨low', hlow'⟩ : ∃ z, t % 10 = z := ⟨_, rfl⟩
              have e1 : (t : Int) / 10 = (q : Int) := by omega
              have e2 : (t : Int) % 10 = (low' : Int) := by omega
              rw [hq] at hqb
              have e3 : (q : Int) % 4294967296 = (q : Int) := by omega
              have e4 : (low : Int) * 4294967296 % 18446744073709551616 = (low : Int) * 4294967296 := by omega
              have ei : ((i + 1 : Nat) : Int) - 1 = (i : Int) := by omega
              have i1 : (0 : Int) ≤ (i : Int) := by omega
              have i2 : (i : Int) < (L : Int) := by omega
              have hl' : low' < 10 := by omega
              have S1 : Hid (r / pB i / 10 = r / pB (i + 1) / 10 * 4294967296 + q) := by show _ = _; rw [s1, ← hq]
              have S2 : Hid (r / pB i % 10 = low') := by show _ = _; rw [s2, ← hlow']
              have HQB := Lib.hid hqb
              clear s1 s2 ht hq hlow' hd hgi
              go_wp2_with fail
              go_roundw
              case rel =>
                refine ⟨Ext.set hX.out hg.out _, i, low', upd G i q, by omega, by go_num, by rw [e2], hl', S2, Row.set hR.out _ _, ?_, ?_, ?_⟩
                · refine World.ownsRow.kept hB.out (hR.out.set_fr i q) ?_
                  cases Ab with
                  | none => exact .inl rfl
                  | some ad =>
                    refine .inr ?_
                    simp [Value.ownBlock]
                    exact fun e => hne.out ad rfl e
                · exact fun k hk => by rw [upd_ne _ (by omega)]; exact hK.out k (by omega)
                · intro k hk
                  by_cases e : k = i
                  · subst e
                    refine .inl ?_
                    rw [upd_same, S1.out, Nat.sub_self, dg_zero]
                    have := HQB.out
                    omega
                  · rcases hQ.out k (by omega) with h | h
                    · refine .inl ?_
                      rw [upd_ne _ e, h, S1.out, show k - i = k - (i + 1) + 1 by omega, dg_cons _ HQB.out]
                    · exact .inr h
              case measure => simp [intOf]
            | zero =>
              have hlr : low = r % 10 := by
                have := hl.out
                rw [pB_zero, Nat.div_one] at this
                exact this.symm
              have hGk : ∀ k, k < L → G k = dg (r / 10) k := fun k hk => by
                rcases hQ.out k (Nat.zero_le _) with h | h
                · rw [h, pB_zero, Nat.div_one]; rfl
                · omega
              have HB : Hid (∀ k, k < L → G k < 4294967296) := fun k hk => by rw [hGk k hk]; exact dg_lt _ _
              have hle : len (r / 10) ≤ L := by rw [← HLe.out]; exact len_mono (Nat.div_le_self _ _)
              have HV : Hid (valN G L = r / 10) := by
                show _ = _
                rw [valN_congr hGk]; exact valN_dg_all hle
              have HROW : Hid (∀ wz, Row wz w.heap.size g L c1 G → Row wz w.heap.size g (len (r / 10)) c1 (dg (r / 10))) := fun wz h => (h.le hle).congr fun k hk => hGk k (by omega)
              have hD' := hNX.out.1
              rw [← hlr] at hD'
              have HD := Lib.hid hD'
              have HRM : Hid (r / 10 ≤ m) := Nat.le_trans (Nat.div_le_self _ _) hrm
              obtain ⟨r', hr'⟩ : ∃ r', r / 10 = r' := ⟨_, rfl⟩
              rw [hr'] at HV HROW HD HRM
              have hsz := hR.out.lt.2
              have ht := rtrim_any (some ⟨g, 0, none⟩) L c1 G wr hR.out.rd HB.out hR.out.cap.1 hR.out.cap.2
              rw [HV.out] at ht
              have i0' : ¬ (0 : Int) ≤ ((0 : Nat) : Int) - 1 := by omega
              have e48 : ((48 : Int) + (low : Int)) % 18446744073709551616 = 48 + low := by omega
              have e49 : ((48 : Int) + (low : Int)) % 256 = 48 + low := by omega
              clear hr' hGk hK hQ hD' hlr hl
              have hdl := dec_len HLM.out
              have HBX := Lib.hid (cells_cons hlow l)
              have HLN : Hid (1 + l.length = (UInt8.ofNat (48 + low) :: l).length) := by show _ = _; simp; omega
              have hlm1 : l.length < 20000000 := by omega
              rcases hB.out.cases with ⟨rfl, e2, rfl⟩ | ⟨gb, rfl, hgb⟩
              · obtain rfl : l = [] := List.length_eq_zero_iff.1 e2
                go_wp2_with (first
                  | (go_at_call 145; (with_reducible refine ht.mono ?_); rintro e w4 ⟨rfl, rfl⟩)
                  | (at_builtin; refine wpList_append_own_none rfl _ _ _ rfl wr.heap.size 5 i1 1 Tryz.underlying106 hi1 (.slice (some ⟨wr.heap.size, 0, none⟩) 1 1) 1 [.int .u8 (48 + (low : Int))] rfl (World.ownsRow_lit wr #[.int .u8 (48 + (low : Int))] 1 (Nat.le_refl _) (by unfold maxLen; omega) rfl) rfl ?_))
                go_roundw
                case rel =>
                  refine ⟨hX.out.trans (Ext.alloc _ _), r', [UInt8.ofNat (48 + low)], some ⟨wr.heap.size, 0, none⟩, 1, rfl, rfl, HRM.out, HROW.out _ (hR.out.ext (Ext.alloc _ _)), ?_, ?_, HD⟩
                  · show World.ownsRow _ _ _ _ _ _ _
                    rw [← HBX.out]
                    exact World.ownsRow_lit wr #[.int .u8 (48 + (low : Int))] 1 hX.out.size (by unfold maxLen; omega) rfl
                  · rintro ad e; injection e with e; subst e; show wr.heap.size ≠ g; omega
                case measure => simp [slen]; omega
              · have HN := Lib.hid ((hB.out.ext (Ext.alloc wr (.cells #[.int .u8 (48 + (low : Int))] 5))).cells)
                have HO1 := Lib.hid (Lib.byteCells_one l)
                go_wp2_with (first
                  | (go_at_call 145; (with_reducible refine ht.mono ?_); rintro e w4 ⟨rfl, rfl⟩)
                  | (at_builtin; refine wpList_append_own _ rfl _ _ _ rfl wr.heap.size 5 i1 _ 1 1 Tryz.underlying106 hi1 hy0 hy1 hy2 rfl (by omega) (.slice (some ⟨wr.heap.size, 0, none⟩) 1 1) 1 [.int .u8 (48 + (low : Int))] rfl (World.ownsRow_lit wr #[.int .u8 (48 + (low : Int))] 1 (Nat.le_refl _) (by unfold maxLen; omega) rfl) ⟨gb, 0, none⟩ l.length cb (Lib.byteCells l) rfl (by simp [Lib.byteCells]) HN.out HO1.out (by unfold maxLen; omega) (by omega) (by simp) ?_; intro v1 w3 hown1 hg1 hnn; rw [HLN.out, HBX.out] at hown1; obtain ⟨g3, c3, rfl, hg3⟩ := sliceB hown1 (by simp); have HO3 := Lib.hid hown1; have HX3 : Hid (Ext wr w3) := Below.grown (Ext.alloc wr _) hg1 (by simp) (fun k hk => by simp [Value.ownBlock] at hk; omega); have HG3 := Lib.hid ((hR.out.ext (Ext.alloc _ _)).grown hg1 (by simp [Value.ownBlock]; omega)); clear hown1 hg1 hnn))
                go_roundw
                case rel =>
                  refine ⟨hX.out.trans HX3.out, r', UInt8.ofNat (48 + low) :: l, some ⟨g3, 0, none⟩, c3, rfl, rfl, HRM.out, HROW.out _ HG3.out, World.ownsRow.mono HO3.out hX.out.size, ?_, HD⟩
                  rintro ad e; injection e with e; subst e; show g3 ≠ g; omega
                case measure => simp [slen]; omega
        · obtain rfl : L = 0 := by omega
          go_wp2_with fail
          go_loopw [4, 5] (fun s4 s5 wq => Hid (Ext w wq) ∧ ∃ (i low : Nat) (G : Nat → Nat), i ≤ 0 ∧ s5 = I ((i : Int) - 1) ∧ s4 = U8 low ∧ low < 10 ∧ Hid (r / pB i % 10 = low) ∧ Hid (Row wq w.heap.size g 0 c1 G) ∧ Hid (OnB wq w.heap.size Ab cb l) ∧ Hid (∀ k, k < i → G k = dg r k) ∧ Hid (∀ k, i ≤ k → G k = dg (r / pB i / 10) (k - i) ∨ 0 ≤ k)) (fun _ s5 _ => (intOf s5 + 1).toNat)
          case atStart =>
            refine ⟨hX, 0, 0, dg r, Nat.le_refl _, rfl, rfl, by omega, ?_, hR, hB, fun _ _ => rfl, fun k hk => .inr hk⟩
            show _ = _
            rw [HLL.out]
          case round =>
            clear hX hR hB HLL
            obtain ⟨hX, i, low, G, hi, rfl, rfl, hlow, hl, hR, hB, hK, hQ⟩ := hrel
            cases i with
            | succ i => exfalso; omega
            | zero =>
              have hlr : low = r % 10 := by
                have := hl.out
                rw [pB_zero, Nat.div_one] at this
                exact this.symm
              have hGk : ∀ k, k < 0 → G k = dg (r / 10) k := fun k hk => by
                rcases hQ.out k (Nat.zero_le _) with h | h
                · rw [h, pB_zero, Nat.div_one]; rfl
                · omega
              have HB : Hid (∀ k, k < 0 → G k < 4294967296) := fun k hk => by rw [hGk k hk]; exact dg_lt _ _
              have hle : len (r / 10) ≤ 0 := by rw [← HLe.out]; exact len_mono (Nat.div_le_self _ _)
              have HV : Hid (valN G 0 = r / 10) := by
                show _ = _
                rw [valN_congr hGk]; exact valN_dg_all hle
              have HROW : Hid (∀ wz, Row wz w.heap.size g 0 c1 G → Row wz w.heap.size g (len (r / 10)) c1 (dg (r / 10))) := fun wz h => (h.le hle).congr fun k hk => hGk k (by omega)
              have hD' := hNX.out.1
              rw [← hlr] at hD'
              have HD := Lib.hid hD'
              have HRM : Hid (r / 10 ≤ m) := Nat.le_trans (Nat.div_le_self _ _) hrm
              obtain ⟨r', hr'⟩ : ∃ r', r / 10 = r' := ⟨_, rfl⟩
              rw [hr'] at HV HROW HD HRM
              have hsz := hR.out.lt.2
              have ht := rtrim_any (some ⟨g, 0, none⟩) 0 c1 G wr hR.out.rd HB.out hR.out.cap.1 hR.out.cap.2
              rw [HV.out] at ht
              have i0' : ¬ (0 : Int) ≤ ((0 : Nat) : Int) - 1 := by omega
              have e48 : ((48 : Int) + (low : Int)) % 18446744073709551616 = 48 + low := by omega
              have e49 : ((48 : Int) + (low : Int)) % 256 = 48 + low := by omega
              clear hr' hGk hK hQ hD' hlr hl
              have hdl := dec_len HLM.out
              have HBX := Lib.hid (cells_cons hlow l)
              have HLN : Hid (1 + l.length = (UInt8.ofNat (48 + low) :: l).length) := by show _ = _; simp; omega
              have hlm1 : l.length < 20000000 := by omega
              rcases hB.out.cases with ⟨rfl, e2, rfl⟩ | ⟨gb, rfl, hgb⟩
              · obtain rfl : l = [] := List.length_eq_zero_iff.1 e2
                go_wp2_with (first
                  | (go_at_call 145; (with_reducible refine ht.mono ?_); rintro e w4 ⟨rfl, rfl⟩)
                  | (at_builtin; refine wpList_append_own_none rfl _ _ _ rfl wr.heap.size 5 i1 1 Tryz.underlying106 hi1 (.slice (some ⟨wr.heap.size, 0, none⟩) 1 1) 1 [.int .u8 (48 + (low : Int))] rfl (World.ownsRow_lit wr #[.int .u8 (48 + (low : Int))] 1 (Nat.le_refl _) (by unfold maxLen; omega) rfl) rfl ?_))
                go_roundw
                case rel =>
                  refine ⟨hX.out.trans (Ext.alloc _ _), r', [UInt8.ofNat (48 + low)], some ⟨wr.heap.size, 0, none⟩, 1, rfl, rfl, HRM.out, HROW.out _ (hR.out.ext (Ext.alloc _ _)), ?_, ?_, HD⟩
                  · show World.ownsRow _ _ _ _ _ _ _
                    rw [← HBX.out]
                    exact World.ownsRow_lit wr #[.int .u8 (48 + (low : Int))] 1 hX.out.size (by unfold maxLen; omega) rfl
                  · rintro ad e; injection e with e; subst e; show wr.heap.size ≠ g; omega
                case measure => simp [slen]; omega
              · have HN := Lib.hid ((hB.out.ext (Ext.alloc wr (.cells #[.int .u8 (48 + (low : Int))] 5))).cells)
                have HO1 := Lib.hid (Lib.byteCells_one l)
                go_wp2_with (first
                  | (go_at_call 145; (with_reducible refine ht.mono ?_); rintro e w4 ⟨rfl, rfl⟩)
                  | (at_builtin; refine wpList_append_own _ rfl _ _ _ rfl wr.heap.size 5 i1 _ 1 1 Tryz.underlying106 hi1 hy0 hy1 hy2 rfl (by omega) (.slice (some ⟨wr.heap.size, 0, none⟩) 1 1) 1 [.int .u8 (48 + (low : Int))] rfl (World.ownsRow_lit wr #[.int .u8 (48 + (low : Int))] 1 (Nat.le_refl _) (by unfold maxLen; omega) rfl) ⟨gb, 0, none⟩ l.length cb (Lib.byteCells l) rfl (by simp [Lib.byteCells]) HN.out HO1.out (by unfold maxLen; omega) (by omega) (by simp) ?_; intro v1 w3 hown1 hg1 hnn; rw [HLN.out, HBX.out] at hown1; obtain ⟨g3, c3, rfl, hg3⟩ := sliceB hown1 (by simp); have HO3 := Lib.hid hown1; have HX3 : Hid (Ext wr w3) := Below.grown (Ext.alloc wr _) hg1 (by simp) (fun k hk => by simp [Value.ownBlock] at hk; omega); have HG3 := Lib.hid ((hR.out.ext (Ext.alloc _ _)).grown hg1 (by simp [Value.ownBlock]; omega)); clear hown1 hg1 hnn))
                go_roundw
                case rel =>
                  refine ⟨hX.out.trans HX3.out, r', UInt8.ofNat (48 + low) :: l, some ⟨g3, 0, none⟩, c3, rfl, rfl, HRM.out, HROW.out _ HG3.out, World.ownsRow.mono HO3.out hX.out.size, ?_, HD⟩
                  rintro ad e; injection e with e; subst e; show g3 ≠ g; omega
                case measure => simp [slen]; omega
end

/-! ### Rtx -/
section
open Go.RowKit

set_option maxRecDepth 100000 in
set_option maxHeartbeats 1000000 in
theorem rtext_any {w : World} {neg : Bool} {A A' : Option Addr} {n c c' : Nat} {den : Int} {d : DV} (h : Dy w neg A n c den d A' c') (hL : len d.m ≤ 1048576) :
    Calls Tryz.prog 72 #[dv neg A n c den] w fun e w' => e = .returned (.string (txtS d)) ∧ Ext w w' := by
  have H := Lib.hid h; clear h
  have h2 := H.out.wf.2.1
  have HN : Hid (∀ w', Ext w w' → Calls Tryz.prog 94 #[dv neg A n c den] w' (NumRes (dv d.neg A' (len d.m) c' d.den) w')) := H.out.norm
  have HDC : Hid (∀ w', Ext w w' → Calls Tryz.prog 114 #[.slice A' (len d.m) c'] w' fun e2 w2 => e2 = .returned (.string (digB d.m)) ∧ Ext w' w2) := fun w' e => rdecimal_any A' d.m c' w' (H.out.rd.ext e) H.out.sl hL
  have hs1 : (digB d.m).size ≤ 100000000 := by
    rw [digB_size, Lib.decDigits_length]
    have h9 := gl_words d.m
    by_cases hm : d.m = 0
    · rw [hm, Lib.nDigits_small (by decide)]; omega
    · have := top_len (m := d.m) (n := gl d.m) (i := gl d.m) rfl (by rw [gl_pos hm]; omega) (Nat.le_refl _)
      rw [Nat.sub_self, Nat.pow_zero, Nat.div_one, Lib.decDigits_length] at this
      omega
  have hs2 : (digB d.den).size ≤ 6 := by rw [digB_size]; exact nd_le (by decide) (by rw [show (10 : Nat) ^ 6 = 1000000 by decide]; omega)
  have l1 : (Lib.decDigits d.m).length ≤ 100000000 := by rw [← digB_size]; exact hs1
  have l2 : (Lib.decDigits d.den).length ≤ 6 := by rw [← digB_size]; exact hs2
  clear hL
  have hdm : ((d.den : Int)) % 4294967296 = (d.den : Int) := by omega
  by_cases hd : d.den = 0
  · have hd' : ¬ (0 : Int) < (d.den : Int) := by omega
    cases hn : d.neg with
    | false =>
      have HR : Hid (txtS d = digB d.m) := by show _ = _; unfold txtS signB; rw [if_pos hd, hn]; rfl
      rw [HR.out]
      rw [hn] at HN
      clear HR
      go_enter Tryz.func72, Tryz.ntmps72
      go_wp2_with (first
        | (go_at_call 94; refine (HN.out _ (Ext.alloc _ _)).mono ?_; rintro e w1 ⟨rfl, hx⟩; obtain ⟨⟨k0, k1, k2⟩, hz, hx1⟩ := one_box hx; have HX := Lib.hid hx1; obtain ⟨hc, hf⟩ := hx.old; clear hx hx1)
        | (have hg := HX2; clear hg; go_at_call 114; (with_reducible refine (HDEN.out _).mono ?_); rintro e w5 ⟨rfl, hx⟩; have HX3 := Lib.hid (HX2.out.trans ((Ext.alloc _ _).trans hx)); clear hx)
        | (go_at_call 114; refine (HDC.out _ (ext_set3 HX.out (Nat.le_refl _) _ _ _)).mono ?_; rintro e w2 ⟨rfl, hx⟩; have hk := hx.old.1; have HX2 := Lib.hid ((ext_set3 HX.out (Nat.le_refl _) _ _ _).trans hx); clear hx))
      go_ret
      exact ⟨rfl, HX2.out⟩
    | true =>
      have HR : Hid (txtS d = ⟨#[45]⟩ ++ digB d.m) := by show _ = _; unfold txtS signB; rw [if_pos hd, hn]; rfl
      rw [HR.out]
      rw [hn] at HN
      clear HR
      go_enter Tryz.func72, Tryz.ntmps72
      go_wp2_with (first
        | (go_at_call 94; refine (HN.out _ (Ext.alloc _ _)).mono ?_; rintro e w1 ⟨rfl, hx⟩; obtain ⟨⟨k0, k1, k2⟩, hz, hx1⟩ := one_box hx; have HX := Lib.hid hx1; obtain ⟨hc, hf⟩ := hx.old; clear hx hx1)
        | (have hg := HX2; clear hg; go_at_call 114; (with_reducible refine (HDEN.out _).mono ?_); rintro e w5 ⟨rfl, hx⟩; have HX3 := Lib.hid (HX2.out.trans ((Ext.alloc _ _).trans hx)); clear hx)
        | (go_at_call 114; refine (HDC.out _ (ext_set3 HX.out (Nat.le_refl _) _ _ _)).mono ?_; rintro e w2 ⟨rfl, hx⟩; have hk := hx.old.1; have HX2 := Lib.hid ((ext_set3 HX.out (Nat.le_refl _) _ _ _).trans hx); clear hx))
      go_ret
      exact ⟨rfl, HX2.out⟩
  · have hd' : (0 : Int) < (d.den : Int) := by omega
    have HDEN : Hid (∀ w2 : World, Calls Tryz.prog 114 #[.slice (some ⟨w2.heap.size, 0, none⟩) 1 1] (w2.alloc (.cells #[.int .u32 (d.den : Int)] 80)) fun e w' => e = .returned (.string (digB d.den)) ∧ Ext (w2.alloc (.cells #[.int .u32 (d.den : Int)] 80)) w') := fun w2 => by
      have h1 : len d.den = 1 := by rw [len_pos hd, show d.den / 4294967296 = 0 by omega, len_zero]
      have := rdecimal_any (some ⟨w2.heap.size, 0, none⟩) d.den 1 (w2.alloc (.cells #[.int .u32 (d.den : Int)] 80)) (by
        rw [h1]
        intro _
        refine ⟨w2.heap.size, 0, rfl, by simp, fun i hi => ?_⟩
        obtain rfl : i = 0 := by omega
        rw [dg_zero, show d.den % 4294967296 = d.den by omega]
        go_simp) (by rw [h1]; exact ⟨Nat.le_refl _, by unfold maxLen; omega, fun e => by cases e⟩) (by rw [h1]; omega)
      rw [h1] at this; exact this
    cases hn : d.neg with
    | false =>
      have HR : Hid (txtS d = digB d.m ++ (⟨#[47, 50, 94]⟩ ++ digB d.den)) := by show _ = _; unfold txtS signB; rw [if_neg hd, hn]; rfl
      rw [HR.out]
      rw [hn] at HN
      clear HR
      go_enter Tryz.func72, Tryz.ntmps72
      go_wp2_with (first
        | (go_at_call 94; refine (HN.out _ (Ext.alloc _ _)).mono ?_; rintro e w1 ⟨rfl, hx⟩; obtain ⟨⟨k0, k1, k2⟩, hz, hx1⟩ := one_box hx; have HX := Lib.hid hx1; obtain ⟨hc, hf⟩ := hx.old; clear hx hx1)
        | (have hg := HX2; clear hg; go_at_call 114; (with_reducible refine (HDEN.out _).mono ?_); rintro e w5 ⟨rfl, hx⟩; have HX3 := Lib.hid (HX2.out.trans ((Ext.alloc _ _).trans hx)); clear hx)
        | (go_at_call 114; refine (HDC.out _ (ext_set3 HX.out (Nat.le_refl _) _ _ _)).mono ?_; rintro e w2 ⟨rfl, hx⟩; have hk := hx.old.1; have HX2 := Lib.hid ((ext_set3 HX.out (Nat.le_refl _) _ _ _).trans hx); clear hx))
      go_ret
      exact ⟨rfl, HX3.out⟩
    | true =>
      have HR : Hid (txtS d = (⟨#[45]⟩ ++ digB d.m) ++ (⟨#[47, 50, 94]⟩ ++ digB d.den)) := by show _ = _; unfold txtS signB; rw [if_neg hd, hn]; rfl
      rw [HR.out]
      rw [hn] at HN
      clear HR
      go_enter Tryz.func72, Tryz.ntmps72
      go_wp2_with (first
        | (go_at_call 94; refine (HN.out _ (Ext.alloc _ _)).mono ?_; rintro e w1 ⟨rfl, hx⟩; obtain ⟨⟨k0, k1, k2⟩, hz, hx1⟩ := one_box hx; have HX := Lib.hid hx1; obtain ⟨hc, hf⟩ := hx.old; clear hx hx1)
        | (have hg := HX2; clear hg; go_at_call 114; (with_reducible refine (HDEN.out _).mono ?_); rintro e w5 ⟨rfl, hx⟩; have HX3 := Lib.hid (HX2.out.trans ((Ext.alloc _ _).trans hx)); clear hx)
        | (go_at_call 114; refine (HDC.out _ (ext_set3 HX.out (Nat.le_refl _) _ _ _)).mono ?_; rintro e w2 ⟨rfl, hx⟩; have hk := hx.old.1; have HX2 := Lib.hid ((ext_set3 HX.out (Nat.le_refl _) _ _ _).trans hx); clear hx))
      go_ret
      exact ⟨rfl, HX3.out⟩
end

end Go.Proofs.YtlnphamgmicniaaGreatDoor
