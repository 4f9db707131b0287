/- Groups of nine decimal digits. -/
import Derived.Test.YtcdkkohklhmpgaaGreatDoorDec
import Derived.Test.YtcdkkohklhmpgaaGreatDoorAwk
import Derived.Lib.AppendIntMem
namespace Go.Proofs.YtcdkkohklhmpgaaGreatDoor

/-! ### Grp -/
section
open Go.RowKit

def gd (m i : Nat) : Nat := m / GG ^ i % GG
theorem gl_le_of : ∀ (j m : Nat), m / GG ^ j = 0 → gl m ≤ j
  | 0, m, h => by simp at h; subst h; rw [gl_zero]; exact Nat.le_refl _
  | j + 1, m, h => by
    by_cases h0 : m = 0
    · subst h0; rw [gl_zero]; omega
    · rw [gl_pos h0]
      have := gl_le_of j (m / GG) (by rw [Nat.div_div_eq_div_mul, Nat.mul_comm, ← Nat.pow_succ]; exact h)
      omega
theorem gl_words (m : Nat) : gl m ≤ 2 * len m := by
  refine gl_le_of _ _ (Nat.div_eq_of_lt (Nat.lt_of_lt_of_le (lt_pB_len m) ?_))
  rw [Nat.pow_mul]
  unfold pB
  exact Nat.pow_le_pow_left (by decide) _
theorem pB_one : pB 1 = 4294967296 := by unfold pB; rw [Nat.pow_one]
theorem dg_cons (X : Nat) {q : Nat} (hq : q < 4294967296) (t : Nat) : dg (X * 4294967296 + q) (t + 1) = dg X t := by
  have := dg_div (X * 4294967296 + q) 1 t
  rw [pB_one, show (X * 4294967296 + q) / 4294967296 = X by omega, Nat.add_comm 1 t] at this
  exact this.symm
theorem pB_pow (k : Nat) : pB k = 4294967296 ^ k := rfl
/-- What a function that returns groups returns. -/
def GrRes (m : Nat) (w : World) (e : Ending) (w' : World) : Prop := ∃ A c, e = .returned (.slice A (gl m) c) ∧ On w' w.heap.size A (gl m) c (gd m) ∧ Ext w w'

/-- One word of a division by 1000000000. -/
theorem grp_step {r i low d : Nat} (hlow : r / pB (i + 1) % GG = low) (hd : dg r i = d) : r / pB i / GG = r / pB (i + 1) / GG * 4294967296 + (low * 4294967296 + d) / GG ∧ r / pB i % GG = (low * 4294967296 + d) % GG :=
  div_step (B := 4294967296) (by decide) hlow hd

set_option maxRecDepth 100000 in
set_option maxHeartbeats 4000000 in
theorem groups_any (A : Option Addr) (m c : Nat) (w : World) (hr : Rd w A (len m) (dg m)) (hok : SlOk A (len m) c) (hL : len m ≤ 1048576) :
    Calls Tryz.prog 230 #[.slice A (len m) c] w (GrRes m w) := by
  have HR := Lib.hid hr; have HOK := Lib.hid hok; clear hr hok
  have hg2 := gl_words m
  by_cases h0 : m = 0
  · have hl0 : len m = 0 := by rw [h0, len_zero]
    have HG : Hid (gl m = 0) := by show _ = _; rw [h0, gl_zero]
    rw [hl0] at HR HOK ⊢
    unfold GrRes
    rw [HG.out]
    clear hg2 hL hl0 h0
    go_enter Tryz.func230, Tryz.ntmps230
    go_wp2_with (go_at_call 208; refine (clone_any _ _ _ _ _ HR.out HOK.out (by omega)).mono ?_; rintro e w1 ⟨A1, c1, rfl, hon, hx⟩; have HX := Lib.hid hx; clear hon hx)
    go_loopw [3, 4] (fun s3 s4 wr => Hid (Ext w wr) ∧ s3 = .slice none 0 0 ∧ s4 = .slice A1 0 c1) (fun _ _ _ => 0)
    case atStart => exact ⟨HX, rfl, rfl⟩
    case round =>
      obtain ⟨hX, rfl, rfl⟩ := hrel
      go_wp2
      go_ret
      exact ⟨none, 0, rfl, On.nil _ _ _, hX.out⟩
  · have hlm : len m ≠ 0 := fun e => h0 (len_eq_zero.1 e)
    go_enter Tryz.func230, Tryz.ntmps230
    go_wp2_with (go_at_call 208; refine (clone_any _ _ _ _ _ HR.out HOK.out (by omega)).mono ?_; rintro e w1 ⟨A1, c1, rfl, hon, hx⟩)
    have hON := Lib.hid hon
    have hXX := Lib.hid hx
    clear hon hx
    obtain ⟨rfl, hz, _⟩ | ⟨g, rfl, hrow⟩ := hON.out.cases
    · exact absurd hz hlm
    have hR0 := Lib.hid hrow
    have hg : Hid (w.heap.size ≤ g) := hrow.lt.1
    have HZ0 : Hid (m / GG ^ 0 = m) := by show _ = _; simp
    clear hrow hON
    go_loopw [3, 4] (fun s3 s4 wr => Hid (Ext w wr) ∧ ∃ (j r : Nat) (Ag : Option Addr) (cg : Nat), j ≤ gl m ∧ s3 = .slice Ag j cg ∧ s4 = .slice (some ⟨g, 0, none⟩) (len r) c1 ∧ Hid (m / GG ^ j = r) ∧ Hid (On wr w.heap.size Ag j cg (gd m)) ∧ Hid (∀ ad, Ag = some ad → ad.block ≠ g) ∧ Hid (Row wr w.heap.size g (len r) c1 (dg r)) ∧ Hid (j ≠ 0 → m / GG ^ (j - 1) ≠ 0)) (fun s3 _ _ => gl m - slen s3)
    case atStart => exact ⟨hXX, 0, m, none, 0, Nat.zero_le _, rfl, rfl, HZ0, On.nil _ _ _, (fun _ h => by cases h), hR0, fun h => absurd rfl h⟩
    case round =>
      clear hXX hR0 HZ0
      obtain ⟨hX, j, r, Ag, cg, hj, rfl, rfl, hr, hO, hne, hR, hp⟩ := hrel
      by_cases hr0 : r = 0
      · have hl : len r = 0 := len_eq_zero.2 hr0
        have HG : Hid (gl m = j) := gl_of (by rw [hr.out, hr0]) hp.out
        rw [hl]
        go_wp2
        go_ret
        refine ⟨Ag, cg, ?_, ?_, hX.out⟩
        · rw [HG.out]; rfl
        · rw [HG.out]; exact hO.out
      · have hjlt : j < gl m := by
          have h1 := gl_div j m (by rw [hr.out]; exact hr0)
          rw [hr.out, gl_pos hr0] at h1
          omega
        obtain ⟨L, hLe⟩ : ∃ L, len r = L := ⟨_, rfl⟩
        have hL0 : L ≠ 0 := fun e => hr0 (len_eq_zero.1 (by rw [hLe]; exact e))
        have hLm : L ≤ 1048576 := by
          have : len r ≤ len m := by rw [← hr.out]; exact len_mono (Nat.div_le_self _ _)
          omega
        rw [hLe] at hR
        rw [hLe]
        have HLe := Lib.hid hLe
        have HLL : Hid (r / pB L = 0) := Nat.div_eq_of_lt (lt_pB (by rw [hLe]; exact Nat.le_refl _))
        clear hLe
        have hL1 : (0 : Int) < (L : Int) := by omega
        go_wp2
        go_loopw [5, 6] (fun s5 s6 wq => Hid (Ext w wq) ∧ ∃ (i low : Nat) (G : Nat → Nat), i ≤ L ∧ s6 = I ((i : Int) - 1) ∧ s5 = U8 low ∧ low < 1000000000 ∧ Hid (r / pB i % GG = low) ∧ Hid (Row wq w.heap.size g L c1 G) ∧ Hid (On wq w.heap.size Ag j cg (gd m)) ∧ Hid (∀ k, k < i → G k = dg r k) ∧ Hid (∀ k, i ≤ k → G k = dg (r / pB i / GG) (k - i) ∨ L ≤ k)) (fun _ s6 _ => (intOf s6 + 1).toNat)
        case atStart =>
          refine ⟨hX, L, 0, dg r, Nat.le_refl _, rfl, rfl, by omega, ?_, hR, hO, fun _ _ => rfl, fun k hk => .inr hk⟩
          show _ = _
          rw [HLL.out]; rfl
        case round =>
          clear hX hR hO HLL
          obtain ⟨hX, i, low, G, hi, rfl, rfl, hlow, hl, hR, hO, hK, hQ⟩ := hrel
          cases i with
          | zero =>
            have hlr : low = gd m j := by
              have := hl.out
              rw [pB_zero, Nat.div_one] at this
              unfold gd; rw [hr.out]; exact this.symm
            have HB : Hid (∀ k, k < L → G k < 4294967296) := fun k hk => by
              rcases hQ.out k (Nat.zero_le _) with h | h
              · rw [h]; exact dg_lt _ _
              · omega
            have hv : valN G L = r / GG := by
              have h1 : ∀ k, k < L → G k = dg (r / GG) k := fun k hk => by
                rcases hQ.out k (Nat.zero_le _) with h | h
                · rw [h, pB_zero, Nat.div_one]; rfl
                · omega
              rw [valN_congr h1]
              exact valN_dg_all (by rw [← HLe.out]; exact len_mono (Nat.div_le_self _ _))
            have HV := Lib.hid hv
            have HROW : Hid (∀ wz, Row wz w.heap.size g L c1 G → Row wz w.heap.size g (len (r / GG)) c1 (dg (r / GG))) := fun wz h => by
              have hle : len (r / GG) ≤ L := by rw [← HLe.out]; exact len_mono (Nat.div_le_self _ _)
              refine (h.le hle).congr fun k hk => ?_
              rcases hQ.out k (Nat.zero_le _) with h | h
              · rw [h, pB_zero, Nat.div_one]; rfl
              · omega
            have HNX : Hid (m / GG ^ (j + 1) = r / GG) := by show _ = _; rw [Nat.pow_succ, ← Nat.div_div_eq_div_mul, hr.out]
            have HPV : Hid (m / GG ^ j ≠ 0) := by show _ ≠ _; rw [hr.out]; exact hr0
            obtain ⟨r', hr'⟩ : ∃ r', r / GG = r' := ⟨_, rfl⟩
            rw [hr'] at HV HROW HNX
            have e3 : (low : Int) % 4294967296 = (low : Int) := by omega
            have i0 : ¬ (0 : Int) ≤ ((0 : Nat) : Int) - 1 := by omega
            have hj12 : j ≤ 1099511627776 := by omega
            clear hr' hv hK hQ
            go_wp2_with (first
              | (at_builtin; refine app1 rfl _ _ rfl w.heap.size Ag j cg (gd m) (by rfl) (hO.out.ext (Ext.alloc _ _)) _ 1 low (by rfl) (by go_simp) hj12 (by have := hX.out.size; simp; omega) ?_; intro g3 c3 w4 hrow hg4 hat4 hlt4; have HR3 := Lib.hid hrow; have HX3 : Hid (Ext w w4) := ext_app (hX.out.trans (Ext.alloc _ _)) (hO.out.ext (Ext.alloc _ _)) hg4; have HG3 := Lib.hid ((hR.out.ext (Ext.alloc _ _)).grown hg4 (by intro e; cases Ag with | none => simp [Value.ownBlock] at e | some ad => simp [Value.ownBlock] at e; exact hne.out ad rfl e.symm)); have HN3 : Hid (g3 ≠ g) := (by rcases hat4 with h | h; (cases Ag with | none => simp [Value.ownBlock] at h | some ad => simp [Value.ownBlock] at h; rw [← h]; exact hne.out ad rfl); (have := hR.out.lt.2; simp at h; show g3 ≠ g; omega)); clear hrow hg4 hat4 hlt4)
              | (go_at_call 207; refine (trim_any _ _ _ G _ HG3.out.rd HB.out HG3.out.cap.1 HG3.out.cap.2).mono ?_; rintro e w5 ⟨rfl, rfl⟩; rw [HV.out]))
            go_roundw
            case rel =>
              refine ⟨HX3, j + 1, r', some ⟨g3, 0, none⟩, c3, by omega, by go_num, rfl, HNX, ?_, ?_, HROW.out _ HG3.out, ?_⟩
              · refine Row.on (Row.congr HR3.out fun k hk => ?_)
                by_cases e : k = j
                · subst e; rw [upd_same, hlr]
                · rw [upd_ne _ e]
              · rintro ad e; injection e with e; subst e; exact HN3.out
              · intro _; rw [show j + 1 - 1 = j by omega]; exact HPV.out
            case measure => simp [slen]; omega
          | succ i =>
            have c2 := hR.out.cell (k := i) (by omega)
            have f2 := hR.out.frozen i
            have hxl := dg_lt r i
            have hgi := hK.out i (by omega)
            rw [hgi] at c2
            obtain ⟨d, hd⟩ : ∃ d, dg r i = d := ⟨_, rfl⟩
            rw [hd] at c2 hxl
            obtain ⟨s1, s2⟩ := grp_step hl.out hd
            obtain ⟨t, ht⟩ : ∃ t, low * 4294967296 + d = t := ⟨_, rfl⟩
            have htb : t < 4294967296000000000 := by omega
            have hqb : t / 1000000000 < 4294967296 := by omega
            rw [ht] at s1 s2
            have eor : bits BinOp.or IntKind.u64 ((low : Int) * 4294967296) (d : Int) = (t : Int) := by
              rw [show (low : Int) * 4294967296 = ((low * 4294967296 : Nat) : Int) by omega, or_nat64 (by omega) (by omega)]
              have h := or_add (a := d) (b := low) (p := 32) (by omega)
              rw [Nat.or_comm, show (4294967296 : Nat) = 2 ^ 32 by decide, h]; omega
            obtain ⟨q, hq⟩ : ∃ q, t / 1000000000 = q := ⟨_, rfl⟩
            obtain ⟨low', hlow'⟩ : ∃ z, t % 1000000000 = z := ⟨_, rfl⟩
            have e1 : (t : Int) / 1000000000 = (q : Int) := by omega
            have e2 : (t : Int) % 1000000000 = (low' : Int) := by omega
            rw [hq] at hqb
            have e3 : (q : Int) % 4294967296 = (q : Int) := by omega
            have e4 : (low : Int) * 4294967296 % 18446744073709551616 = (low : Int) * 4294967296 := by omega
            have ei : ((i + 1 : Nat) : Int) - 1 = (i : Int) := by omega
            have i1 : (0 : Int) ≤ (i : Int) := by omega
            have i2 : (i : Int) < (L : Int) := by omega
            have hl' : low' < 1000000000 := by omega
            have S1 : Hid (r / pB i / GG = r / pB (i + 1) / GG * 4294967296 + q) := by show _ = _; rw [s1, ← hq]
            have S2 : Hid (r / pB i % GG = low') := by show _ = _; rw [s2, ← hlow']
            have HQB := Lib.hid hqb
            clear s1 s2 ht hq hlow' hd hgi
            go_wp2
            go_roundw
            case rel =>
              refine ⟨Ext.set hX.out hg.out _, i, low', upd G i q, by omega, by go_num, by rw [e2], hl', S2, Row.set hR.out _ _, ?_, ?_, ?_⟩
              · refine World.ownsRow.kept hO.out (hR.out.set_fr i q) ?_
                cases Ag with
                | none => exact .inl rfl
                | some ad =>
                  refine .inr ?_
                  simp [Value.ownBlock]
                  exact fun e => hne.out ad rfl e
              · exact fun k hk => by rw [upd_ne _ (by omega)]; exact hK.out k (by omega)
              · intro k hk
                by_cases e : k = i
                · subst e
                  refine .inl ?_
                  rw [upd_same, S1.out, Nat.sub_self, dg_zero]
                  have := HQB.out
                  omega
                · rcases hQ.out k (by omega) with h | h
                  · refine .inl ?_
                    rw [upd_ne _ e, h, S1.out, show k - i = k - (i + 1) + 1 by omega, dg_cons _ HQB.out]
                  · exact .inr h
            case measure => simp [intOf]
end

/-! ### Rev -/
section
open Go.RowKit Go.Shelf

set_option maxRecDepth 100000 in
set_option maxHeartbeats 2000000 in
theorem reverse_any (w0 : World) (g n c : Nat) (F : Nat → Nat) (w : World) (hrow : Row w w0.heap.size g n c F) (hx : Ext w0 w) (hn : n ≤ 1099511627776) :
    Calls Tryz.prog 231 #[.slice (some ⟨g, 0, none⟩) n c] w fun e w' => e = .returned (.tuple #[]) ∧ Row w' w0.heap.size g n c (fun k => F (n - 1 - k)) ∧ Ext w0 w' := by
  have HR0 := Lib.hid hrow; have HX0 := Lib.hid hx
  clear hrow hx
  have hg : Hid (w0.heap.size ≤ g) := HR0.out.lt.1
  go_enter Tryz.func231, Tryz.ntmps231
  go_wp2
  go_loopw [2, 3] (fun s2 s3 wr => Hid (Ext w0 wr) ∧ ∃ (i : Nat) (G : Nat → Nat), 2 * i ≤ n + 1 ∧ s2 = I i ∧ s3 = I ((n : Int) - 1 - i) ∧ Hid (Row wr w0.heap.size g n c G) ∧ Hid (∀ k, k < n → G k = if k < i ∨ n ≤ k + i then F (n - 1 - k) else F k)) (fun s2 _ _ => n - (intOf s2).toNat)
  case atStart => exact ⟨HX0, 0, F, by omega, rfl, by go_num, HR0, fun k hk => by rw [if_neg (by omega)]⟩
  case round =>
    clear HR0 HX0
    obtain ⟨hX, i, G, hi, rfl, rfl, hR, hG⟩ := hrel
    by_cases hlt : i + i + 1 < n
    · obtain ⟨j, hj⟩ : ∃ j, n - 1 - i = j := ⟨_, rfl⟩
      have ej : (n : Int) - 1 - (i : Int) = (j : Int) := by omega
      have hij : i < j := by omega
      have hjn : j < n := by omega
      have hin : i < n := by omega
      have c1 := hR.out.cell hin
      have c2 := hR.out.cell hjn
      have f1 := hR.out.frozen i
      have f2 := hR.out.frozen j
      have hne : ¬ i = j := by omega
      have hne2 : ¬ j = i := by omega
      have gi := hG.out i hin
      have gj := hG.out j hjn
      rw [if_neg (by omega)] at gi gj
      rw [gi] at c1
      rw [gj] at c2
      have HN : Hid (∀ k, k < n → (upd (upd G i (F j)) j (F i)) k = if k < i + 1 ∨ n ≤ k + (i + 1) then F (n - 1 - k) else F k) := fun k hk => by
        by_cases e1 : k = j
        · subst e1; rw [upd_same, if_pos (by omega)]; congr 1; omega
        · rw [upd_ne _ e1]
          by_cases e2 : k = i
          · subst e2; rw [upd_same, if_pos (by omega)]; congr 1; omega
          · rw [upd_ne _ e2, hG.out k hk]
            by_cases e3 : k < i ∨ n ≤ k + i
            · rw [if_pos e3, if_pos (by omega)]
            · rw [if_neg e3, if_neg (by omega)]
      have i0 : (0 : Int) ≤ (i : Int) := by omega
      have j0 : (0 : Int) ≤ (j : Int) := by omega
      have i1 : (i : Int) < (j : Int) := by omega
      have i2 : (i : Int) < (n : Int) := by omega
      have j2 : (j : Int) < (n : Int) := by omega
      rw [ej]
      generalize F i = x at *
      generalize F j = y at *
      clear hG gi gj
      go_upto_region 3 with fail
      go_region
      all_goals
        go_wp2
        go_roundw
        case rel => exact ⟨Ext.set (Ext.set (hX.out.trans (Ext.drewN _ _)) hg.out _) hg.out _, i + 1, _, by omega, by go_num, by (have : (n : Int) - 1 - ((i + 1 : Nat) : Int) = (j : Int) - 1 := by omega); rw [this], Row.set (Row.set (hR.out.ext (Ext.drewN _ _)) _ _) _ _, HN⟩
        case measure => simp [intOf]; omega
    · have i1 : ¬ (i : Int) < (n : Int) - 1 - (i : Int) := by omega
      go_wp2
      go_end0
      refine ⟨rfl, hR.out.congr fun k hk => ?_, hX.out⟩
      rw [hG.out k hk]
      by_cases e : k < i ∨ n ≤ k + i
      · rw [if_pos e]
      · rw [if_neg e]; congr 1; omega
end

/-! ### Dtx -/
section
open Go.RowKit Go.Shelf

/-- The table of powers of ten. -/
def TabP (w : World) : Prop := Lib.TabIs Tryz.prog w "internal/strconv.uint64pow10" .u64 Lib.pow10Tab
theorem TabP.ext {w w' : World} (h : TabP w) (e : Ext w w') : TabP w' := by
  have hgn : Tryz.prog.globalNamed "internal/strconv.uint64pow10" = some 1 := by kernel_rfl
  unfold TabP Lib.TabIs World.var? at h ⊢
  rw [hgn] at h ⊢
  simp only [Option.bind_some] at h ⊢
  have hlt : 1 < w.heap.size := by
    rcases Nat.lt_or_ge 1 w.heap.size with h' | h'
    · exact h'
    · rw [Array.getElem?_eq_none h'] at h; cases h
  rw [Below.block e _ hlt]
  exact h
theorem itoa_nat (x : Nat) (w : World) (hx : x ≤ 9223372036854775807) (hP : TabP w) : Calls Tryz.prog 205 #[I x] w fun e w' => e = .returned (.string (digB x)) ∧ Ext w w' := by
  refine (Tryz.strconv_Itoa (x : Int) (by omega) (by omega) w hP).mono ?_
  rintro e w' ⟨rfl, k, os, rfl⟩
  exact ⟨by rw [Lib.itoa_nonneg]; rfl, Lib.below_grow _ w (Nat.le_refl _) k os⟩
theorem isB_ext {B b : Nat} {l : List UInt8} {w w' : World} (h : IsB B b l w) (e : Ext w w') : IsB B b l w' := by
  rcases h with h | h
  · obtain ⟨hB, v, hbk, hown, hne⟩ := h
    have hlt : b < w.heap.size := by
      rcases Nat.lt_or_ge b w.heap.size with h' | h'
      · exact h'
      · rw [Array.getElem?_eq_none h'] at hbk; cases hbk
    exact .inl ⟨hB, v, by rw [Below.block e _ hlt]; exact hbk, World.ownsRow.kept hown (fr_of_ext e) (by cases v.ownBlock <;> simp), hne⟩
  · obtain ⟨hB, v, hbk, hown, hne⟩ := h
    have hlt : b < w.heap.size := by
      rcases Nat.lt_or_ge b w.heap.size with h' | h'
      · exact h'
      · rw [Array.getElem?_eq_none h'] at hbk; cases hbk
    exact .inr ⟨hB, v, by rw [Below.block e _ hlt]; exact hbk, World.ownsRow.kept hown (fr_of_ext e) (by cases v.ownBlock <;> simp), hne⟩
theorem byteCells_len (l : List UInt8) : (Lib.byteCells l).length = l.length := by simp [Lib.byteCells]
theorem nd_le {x k : Nat} (hk : 0 < k) (h : x < 10 ^ k) : (Lib.decDigits x).length ≤ k := by rw [Lib.decDigits_length]; exact (padk_eq k x hk h).1
theorem top_len {m n i : Nat} (hn : gl m = n) (hi : 0 < i) (hin : i ≤ n) : (Lib.decDigits (m / GG ^ (n - i))).length ≤ 9 * i := by
  refine nd_le (by omega) ?_
  have h0 := top_zero hn
  have hm : m < GG ^ n := by
    rcases Nat.lt_or_ge m (GG ^ n) with h | h
    · exact h
    · exfalso
      have := Nat.div_pos h (Nat.pow_pos (n := n) (show 0 < GG by decide))
      omega
  rw [Nat.pow_mul, show (10 : Nat) ^ 9 = GG by decide, Nat.div_lt_iff_lt_mul (Nat.pow_pos (by decide)), ← Nat.pow_add, show i + (n - i) = n by omega]
  exact hm
theorem groups_n (A : Option Addr) (m c n : Nat) (w : World) (hn : gl m = n) (hr : Rd w A (len m) (dg m)) (hok : SlOk A (len m) c) (hL : len m ≤ 1048576) :
    Calls Tryz.prog 230 #[.slice A (len m) c] w fun e w' => ∃ B k, e = .returned (.slice B n k) ∧ On w' w.heap.size B n k (gd m) ∧ Ext w w' := by
  subst hn; exact groups_any A m c w hr hok hL
theorem on_some' {w : World} {b n c : Nat} {A : Option Addr} {f : Nat → Nat} (h : On w b A n c f) (h0 : n ≠ 0) : ∃ g, A = some ⟨g, 0, none⟩ := by
  rcases h.cases with ⟨_, e, _⟩ | ⟨g, rfl, _⟩
  · exact absurd e h0
  · exact ⟨g, rfl⟩
def txtN (m n i : Nat) : List UInt8 := if i = 0 then [] else Lib.decDigits (m / GG ^ (n - i))
theorem digB_size (x : Nat) : (digB x).size = (Lib.decDigits x).length := by unfold digB; simp [ByteArray.size]

set_option maxRecDepth 100000 in
set_option maxHeartbeats 1000000 in
theorem decimal_any (A : Option Addr) (m c : Nat) (w : World) (hr : Rd w A (len m) (dg m)) (hok : SlOk A (len m) c) (hL : len m ≤ 1048576) (hP : TabP w) :
    Calls Tryz.prog 204 #[.slice A (len m) c] w (DecRes m w) := by
  have HR := Lib.hid hr; have HOK := Lib.hid hok; have HP := Lib.hid hP; clear hr hok hP
  have HLL := Lib.hid hL
  by_cases h0 : m = 0
  · have HG : Hid (gl m = 0) := by show _ = _; rw [h0, gl_zero]
    have HD : Hid ((⟨#[48]⟩ : ByteArray) = ⟨(Lib.decDigits m).toArray⟩) := by show _ = _; rw [h0, Lib.decDigits_one (by decide)]; rfl
    unfold DecRes
    rw [← HD.out]
    clear h0 hL
    go_enter Tryz.func204, Tryz.ntmps204
    go_wp2_with (go_at_call 230; go_loud (with_reducible refine (groups_n A m c 0 _ HG.out HR.out HOK.out HLL.out).mono ?_); rintro e w1 ⟨A1, c1, rfl, hon, hx⟩; have HX := Lib.hid hx; clear hon hx)
    go_ret
    exact ⟨rfl, HX.out⟩
  · obtain ⟨n, hn⟩ : ∃ n, gl m = n := ⟨_, rfl⟩
    have hg2 := gl_words m
    rw [hn] at hg2
    have hn0 : n ≠ 0 := by rw [← hn, gl_pos h0]; omega
    have hn1 : ((n : Int) == 0) = false := by simp; omega
    have HN := Lib.hid hn
    have hn12 : n ≤ 1099511627776 := by omega
    clear hn
    have hg3 : n ≤ 2097152 := by omega
    clear hL hg2
    go_enter Tryz.func204, Tryz.ntmps204
    go_wp2_with (first
      | (go_at_call 230; ((with_reducible refine (groups_n A m c n _ HN.out HR.out HOK.out HLL.out).mono ?_); rintro e w1 ⟨A1, c1, rfl, hon, hx⟩; obtain ⟨g1, rfl⟩ := on_some' hon hn0; have hon' : Row w1 w.heap.size g1 n c1 (gd m) := hon; have HON := Lib.hid hon'; clear hon'; have HX := Lib.hid hx; clear hon hx))
      | (go_at_call 231; (with_reducible refine (reverse_any w g1 n c1 (gd m) _ HON.out HX.out hn12).mono ?_); rintro e w2 ⟨rfl, hrow, hx⟩; have HROW := Lib.hid hrow; have HX2 := Lib.hid hx; clear hrow hx))
    obtain ⟨B, hB⟩ : ∃ B, w2.heap.size = B := ⟨_, rfl⟩
    have HB0 : Hid (IsB B B [] (w2.alloc (.cells #[.pointer none, .slice none 0 0] 213))) := hB ▸ isB_new w2
    have HBB := Lib.hid hB
    rw [hB]
    clear hB HON HX
    go_loopw [17] (fun s17 wr => Hid (Ext w2 wr) ∧ Hid (B < wr.heap.size) ∧ ∃ i : Nat, i ≤ n ∧ s17 = I i ∧ Hid (IsB B B (txtN m n i) wr)) (fun s17 _ => n - (intOf s17).toNat)
    case atStart => exact ⟨Ext.alloc _ _, by show _ < _; rw [← HBB.out]; simp, 0, Nat.zero_le _, rfl, HB0.out⟩
    case round =>
      clear HB0
      obtain ⟨hX, hlt, i, hi, rfl, hI⟩ := hrel
      by_cases hin : i < n
      · obtain ⟨b2, o2, rfl', hb2, c2⟩ := (HROW.out.rd.ext hX.out).at_ (k := i) hin
        cases rfl'
        rw [Nat.zero_add] at c2
        obtain ⟨x, hx⟩ : ∃ x, gd m (n - 1 - i) = x := ⟨_, rfl⟩
        rw [hx] at c2
        have hxl : x < 1000000000 := by rw [← hx]; exact gd_lt _
        have hnd : (Lib.decDigits x).length ≤ 9 := nd_le (by decide) (by rw [show (10 : Nat) ^ 9 = 1000000000 by decide]; exact hxl)
        have hxv : m / GG ^ (n - (i + 1)) % GG = x := by rw [← hx]; unfold gd; rw [show n - (i + 1) = n - 1 - i by omega]
        have hds := digB_size x
        have HDL : Hid ((digB x).data.toList = Lib.decDigits x) := by show _ = _; unfold digB; simp
        have HDS := Lib.hid hds
        have hds9 : (digB x).size ≤ 9 := by omega
        have hI1 : (0 : Int) ≤ (i : Int) := by omega
        have HLT := Lib.hid hlt.out
        by_cases hi0 : i = 0
        · subst hi0
          have HT : Hid (txtN m n 0 ++ Lib.decDigits x = txtN m n 1) := by
            show _ = _
            unfold txtN
            rw [if_pos rfl, if_neg (by decide), List.nil_append]
            have h1 := top_step (m := m) (i := 0) (n := n) (by omega)
            rw [show n - 0 = n by omega, top_zero HN.out, Nat.zero_mul, Nat.zero_add, hxv] at h1
            rw [h1, Nat.zero_add]
          have W0 : Hid ((Lib.byteCells (txtN m n 0)).length + (digB x).size ≤ 140737488355328) := by show _ ≤ _; rw [byteCells_len]; unfold txtN; rw [if_pos rfl]; simp; omega
          clear hx hxv hds
          go_wp2_with (first
            | (go_at_call 205; (with_reducible refine (itoa_nat x _ (by omega) (HP.out.ext (HX2.out.trans hX.out))).mono ?_); rintro e w5 ⟨rfl, hx5⟩; have HI5 := Lib.hid (isB_ext hI.out hx5); have H5 := Lib.hid hx5; have hs5 := hx5.size; have HZ5 : Hid (B < w5.heap.size) := Nat.lt_of_lt_of_le HLT.out hs5; clear hx5 hs5)
            | (go_at_call 232; (with_reducible refine (write_any B B _ (digB x) _ HI5.out W0.out (Nat.le_of_lt HZ5.out)).mono ?_); rintro e w6 ⟨rfl, hI6, hb6⟩; have HI6 := Lib.hid hI6; have HB6 := Lib.hid hb6; clear hI6 hb6))
          go_roundw
          case rel =>
            have h1 : Ext w2 w6 := Below.trans (hX.out.trans H5.out) (Below.mono HB6.out (by rw [HBB.out]; exact Nat.le_refl _))
            refine ⟨h1, Nat.lt_of_lt_of_le HZ5.out HB6.out.size, 1, by omega, by go_num, ?_⟩
            have h2 := HI6.out
            rw [HDL.out, HT.out] at h2
            exact h2
          case measure => simp [intOf]; omega
        · have hi0' : (0 : Int) < (i : Int) := by omega
          obtain ⟨pd, hpd⟩ : ∃ pd, 9 - (digB x).size = pd := ⟨_, rfl⟩
          have epd : (9 : Int) - ((digB x).size : Int) = (pd : Int) := by omega
          have HT : Hid ((txtN m n i ++ Lib.repeatL [48] pd) ++ Lib.decDigits x = txtN m n (i + 1)) := by
            show _ = _
            unfold txtN
            rw [if_neg hi0, if_neg (by omega), List.append_assoc]
            have h1 := top_step (m := m) (i := i) (n := n) hin
            rw [hxv] at h1
            have h2 := (dec_group (q := m / GG ^ (n - i)) (g := x) (top_pos HN.out (by omega) (by omega)) hxl).2
            rw [← h1] at h2
            rw [h2, ← hpd, hds, Lib.decDigits_length]
          have htl : (txtN m n i).length ≤ 9 * i := by unfold txtN; rw [if_neg hi0]; exact top_len HN.out (by omega) (by omega)
          have hrp : (Lib.repeatL [48] pd).length = pd := repeatL_one pd
          have hrs : ((⟨(Lib.repeatL [48] pd).toArray⟩ : ByteArray)).size = pd := by simp [ByteArray.size, hrp]
          have hpd9 : pd ≤ 9 := by omega
          have W1 : Hid ((Lib.byteCells (txtN m n i)).length + ((⟨(Lib.repeatL [48] pd).toArray⟩ : ByteArray)).size ≤ 140737488355328) := by show _ ≤ _; rw [byteCells_len, hrs]; omega
          have W2 : Hid ((Lib.byteCells (txtN m n i ++ Lib.repeatL [48] pd)).length + (digB x).size ≤ 140737488355328) := by show _ ≤ _; rw [byteCells_len, List.length_append, hrp]; omega
          have WR : Hid ((⟨#[48]⟩ : ByteArray).size * pd ≤ 140737488355328) := by show 1 * pd ≤ _; omega
          clear hx hxv hds hpd hrp hrs htl
          go_wp2_with (first
            | (go_at_call 205; (with_reducible refine (itoa_nat x _ (by omega) (HP.out.ext (HX2.out.trans hX.out))).mono ?_); rintro e w5 ⟨rfl, hx5⟩; have HI5 := Lib.hid (isB_ext hI.out hx5); have H5 := Lib.hid hx5; have hs5 := hx5.size; have HZ5 : Hid (B < w5.heap.size) := Nat.lt_of_lt_of_le HLT.out hs5; clear hx5 hs5)
            | (go_at_call 233; (with_reducible refine (Tryz.strings_Repeat ⟨#[48]⟩ pd _ (by omega) WR.out).mono ?_); rintro e w6 ⟨rfl, hx6⟩; have HI6 := Lib.hid (isB_ext HI5.out hx6); have H6 := Lib.hid hx6; have hs6 := hx6.size; have HZ6 : Hid (B < w6.heap.size) := Nat.lt_of_lt_of_le HZ5.out hs6; clear hx6 hs6)
            | (have hg := HI7; clear hg; go_at_call 232; (with_reducible refine (write_any B B _ (digB x) _ HI7.out W2.out (Nat.le_of_lt HZ7.out)).mono ?_); rintro e w8 ⟨rfl, hI8, hb8⟩; have HI8 := Lib.hid hI8; have HB8 := Lib.hid hb8; clear hI8 hb8)
            | (go_at_call 232; (with_reducible refine (write_any B B _ ⟨(Lib.repeatL [48] pd).toArray⟩ _ HI6.out W1.out (Nat.le_of_lt HZ6.out)).mono ?_); rintro e w7 ⟨rfl, hI7, hb7⟩; have HI7 := Lib.hid hI7; have HB7 := Lib.hid hb7; have HZ7 : Hid (B < w7.heap.size) := Nat.lt_of_lt_of_le HZ6.out hb7.size; clear hI7 hb7))
          go_roundw
          case rel =>
            have h0 : Ext w2 w6 := (hX.out.trans H5.out).trans H6.out
            have h1 : Ext w2 w7 := Below.trans h0 (Below.mono HB7.out (by rw [HBB.out]; exact Nat.le_refl _))
            have h3 : Ext w2 w8 := Below.trans h1 (Below.mono HB8.out (by rw [HBB.out]; exact Nat.le_refl _))
            refine ⟨h3, Nat.lt_of_lt_of_le HZ7.out HB8.out.size, i + 1, by omega, by go_num, ?_⟩
            have h2 := HI8.out
            rw [HDL.out, HT.out] at h2
            exact h2
          case measure => simp [intOf]; omega
      · have hie : i = n := by omega
        have HT : Hid (txtN m n i = Lib.decDigits m) := by
          show _ = _
          unfold txtN
          rw [if_neg (by omega), hie, Nat.sub_self, Nat.pow_zero, Nat.div_one]
        have HLT := Lib.hid hlt.out
        have hI1 : ¬ (i : Int) < (n : Int) := by omega
        clear hie
        go_wp2_with (go_at_call 234; (with_reducible refine (Tryz.Builder_String_any B B _ _ hI.out (Nat.le_of_lt HLT.out)).mono ?_); rw [HT.out]; rintro e w6 ⟨rfl, hb6⟩; have HB6 := Lib.hid hb6; clear hb6)
        go_ret
        exact ⟨rfl, HX2.out.trans (Below.trans hX.out (Below.mono HB6.out (by rw [HBB.out]; exact Nat.le_refl _)))⟩

set_option maxRecDepth 100000 in
set_option maxHeartbeats 1000000 in
theorem text_any {w : World} {neg : Bool} {A A' : Option Addr} {n c c' : Nat} {den : Int} {d : DV} (h : Dy w neg A n c den d A' c') (hP : TabP w) (hL : len d.m ≤ 1048576) :
    Calls Tryz.prog 150 #[dv neg A n c den] w fun e w' => e = .returned (.string (txtS d)) ∧ Ext w w' := by
  have H := Lib.hid h; have HP := Lib.hid hP; clear h hP
  have h2 := H.out.wf.2.1
  have HN : Hid (∀ w', Ext w w' → Calls Tryz.prog 106 #[dv neg A n c den] w' (NumRes (dv d.neg A' (len d.m) c' d.den) w')) := H.out.num
  have HDC : Hid (∀ w', Ext w w' → Calls Tryz.prog 204 #[.slice A' (len d.m) c'] w' (DecRes d.m w')) := fun w' e => decimal_any A' d.m c' w' (H.out.rd.ext e) H.out.sl hL (HP.out.ext e)
  have hs1 : (digB d.m).size ≤ 100000000 := by
    rw [digB_size, Lib.decDigits_length]
    have h9 := gl_words d.m
    by_cases hm : d.m = 0
    · rw [hm, Lib.nDigits_small (by decide)]; omega
    · have := top_len (m := d.m) (n := gl d.m) (i := gl d.m) rfl (by rw [gl_pos hm]; omega) (Nat.le_refl _)
      rw [Nat.sub_self, Nat.pow_zero, Nat.div_one, Lib.decDigits_length] at this
      omega
  have hs2 : (digB d.den).size ≤ 6 := by rw [digB_size]; exact nd_le (by decide) (by rw [show (10 : Nat) ^ 6 = 1000000 by decide]; omega)
  have l1 : (Lib.decDigits d.m).length ≤ 100000000 := by rw [← digB_size]; exact hs1
  have l2 : (Lib.decDigits d.den).length ≤ 6 := by rw [← digB_size]; exact hs2
  clear hL
  by_cases hd : d.den = 0
  · have hd' : ¬ (0 : Int) < (d.den : Int) := by omega
    cases hn : d.neg with
    | false =>
      have HR : Hid (txtS d = digB d.m) := by show _ = _; unfold txtS signB; rw [if_pos hd, hn]; rfl
      rw [HR.out]
      rw [hn] at HN
      clear HR
      go_enter Tryz.func150, Tryz.ntmps150
      go_wp2_with (first
        | (go_at_call 106; refine (HN.out _ (Ext.alloc _ _)).mono ?_; rintro e w1 ⟨rfl, hx⟩; obtain ⟨⟨k0, k1, k2⟩, hz, hx1⟩ := one_box hx; have HX := Lib.hid hx1; obtain ⟨hc, hf⟩ := hx.old; clear hx hx1)
        | (go_at_call 204; refine (HDC.out _ (ext_set3 HX.out (Nat.le_refl _) _ _ _)).mono ?_; rintro e w2 ⟨rfl, hx⟩; have hk := hx.old.1; have HX2 := Lib.hid ((ext_set3 HX.out (Nat.le_refl _) _ _ _).trans hx); clear hx)
        | (go_at_call 205; (with_reducible refine (itoa_nat d.den _ (by omega) (HP.out.ext HX2.out)).mono ?_); rintro e w5 ⟨rfl, hx⟩; have HX3 := Lib.hid (HX2.out.trans hx); have hk3 := hx.old.1; clear hx))
      go_ret
      exact ⟨rfl, HX2.out⟩
    | true =>
      have HR : Hid (txtS d = ⟨#[45]⟩ ++ digB d.m) := by show _ = _; unfold txtS signB; rw [if_pos hd, hn]; rfl
      rw [HR.out]
      rw [hn] at HN
      clear HR
      go_enter Tryz.func150, Tryz.ntmps150
      go_wp2_with (first
        | (go_at_call 106; refine (HN.out _ (Ext.alloc _ _)).mono ?_; rintro e w1 ⟨rfl, hx⟩; obtain ⟨⟨k0, k1, k2⟩, hz, hx1⟩ := one_box hx; have HX := Lib.hid hx1; obtain ⟨hc, hf⟩ := hx.old; clear hx hx1)
        | (go_at_call 204; refine (HDC.out _ (ext_set3 HX.out (Nat.le_refl _) _ _ _)).mono ?_; rintro e w2 ⟨rfl, hx⟩; have hk := hx.old.1; have HX2 := Lib.hid ((ext_set3 HX.out (Nat.le_refl _) _ _ _).trans hx); clear hx)
        | (go_at_call 205; (with_reducible refine (itoa_nat d.den _ (by omega) (HP.out.ext HX2.out)).mono ?_); rintro e w5 ⟨rfl, hx⟩; have HX3 := Lib.hid (HX2.out.trans hx); have hk3 := hx.old.1; clear hx))
      go_ret
      exact ⟨rfl, HX2.out⟩
  · have hd' : (0 : Int) < (d.den : Int) := by omega
    cases hn : d.neg with
    | false =>
      have HR : Hid (txtS d = digB d.m ++ (⟨#[47, 50, 94]⟩ ++ digB d.den)) := by show _ = _; unfold txtS signB; rw [if_neg hd, hn]; rfl
      rw [HR.out]
      rw [hn] at HN
      clear HR
      go_enter Tryz.func150, Tryz.ntmps150
      go_wp2_with (first
        | (go_at_call 106; refine (HN.out _ (Ext.alloc _ _)).mono ?_; rintro e w1 ⟨rfl, hx⟩; obtain ⟨⟨k0, k1, k2⟩, hz, hx1⟩ := one_box hx; have HX := Lib.hid hx1; obtain ⟨hc, hf⟩ := hx.old; clear hx hx1)
        | (go_at_call 204; refine (HDC.out _ (ext_set3 HX.out (Nat.le_refl _) _ _ _)).mono ?_; rintro e w2 ⟨rfl, hx⟩; have hk := hx.old.1; have HX2 := Lib.hid ((ext_set3 HX.out (Nat.le_refl _) _ _ _).trans hx); clear hx)
        | (go_at_call 205; (with_reducible refine (itoa_nat d.den _ (by omega) (HP.out.ext HX2.out)).mono ?_); rintro e w5 ⟨rfl, hx⟩; have HX3 := Lib.hid (HX2.out.trans hx); have hk3 := hx.old.1; clear hx))
      go_ret
      exact ⟨rfl, HX3.out⟩
    | true =>
      have HR : Hid (txtS d = (⟨#[45]⟩ ++ digB d.m) ++ (⟨#[47, 50, 94]⟩ ++ digB d.den)) := by show _ = _; unfold txtS signB; rw [if_neg hd, hn]; rfl
      rw [HR.out]
      rw [hn] at HN
      clear HR
      go_enter Tryz.func150, Tryz.ntmps150
      go_wp2_with (first
        | (go_at_call 106; refine (HN.out _ (Ext.alloc _ _)).mono ?_; rintro e w1 ⟨rfl, hx⟩; obtain ⟨⟨k0, k1, k2⟩, hz, hx1⟩ := one_box hx; have HX := Lib.hid hx1; obtain ⟨hc, hf⟩ := hx.old; clear hx hx1)
        | (go_at_call 204; refine (HDC.out _ (ext_set3 HX.out (Nat.le_refl _) _ _ _)).mono ?_; rintro e w2 ⟨rfl, hx⟩; have hk := hx.old.1; have HX2 := Lib.hid ((ext_set3 HX.out (Nat.le_refl _) _ _ _).trans hx); clear hx)
        | (go_at_call 205; (with_reducible refine (itoa_nat d.den _ (by omega) (HP.out.ext HX2.out)).mono ?_); rintro e w5 ⟨rfl, hx⟩; have HX3 := Lib.hid (HX2.out.trans hx); have hk3 := hx.old.1; clear hx))
      go_ret
      exact ⟨rfl, HX3.out⟩
end

end Go.Proofs.YtcdkkohklhmpgaaGreatDoor
