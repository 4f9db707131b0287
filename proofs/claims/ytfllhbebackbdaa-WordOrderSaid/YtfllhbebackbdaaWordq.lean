/- Dot of lists of equal length. -/
import Derived.Test.YtfllhbebackbdaaWordp
import Derived.Deep.RegionWith
namespace Go.Proofs.Ytfllhbebackbdaa
open Go.RowKit

def dotP (b s n m : Int) (f g : Nat → Int) (L : Nat) : Prop := lstF b s f g L = 0 ∧ 0 ≤ n ∧ n ≤ 62 ∧ 0 ≤ m ∧ m ≤ 3
instance (b s n m : Int) (f g : Nat → Int) (L : Nat) : Decidable (dotP b s n m f g L) := inferInstanceAs (Decidable (_ ∧ _ ∧ _ ∧ _ ∧ _))
def dotF (b s n m : Int) (f g : Nat → Int) (L : Nat) : Int × Bool × Int :=
  if dotP b s n m f g L then (clipF b (tsr (sumS f g L) n m), cutF b (tsr (sumS f g L) n m), 0) else (0, false, 3)
theorem dot_ok {b s n m : Int} {f g : Nat → Int} {L : Nat} (h : dotP b s n m f g L) : dotF b s n m f g L = (clipF b (tsr (sumS f g L) n m), cutF b (tsr (sumS f g L) n m), 0) := by unfold dotF; rw [if_pos h]
theorem dot_bad {b s n m : Int} {f g : Nat → Int} {L : Nat} (h : ¬ dotP b s n m f g L) : dotF b s n m f g L = (0, false, 3) := by unfold dotF; rw [if_neg h]
theorem lst_of {b s : Int} {f g : Nat → Int} {L : Nat} (h : lstF b s f g L = 0) : chkF b s = 0 ∧ allB b f g L = true := by
  unfold lstF at h; split at h
  · assumption
  · cases h
theorem lst_3 {b s : Int} {f g : Nat → Int} {L : Nat} (h : ¬ lstF b s f g L = 0) : lstF b s f g L = 3 := by
  unfold lstF at *; split
  · rename_i hh; rw [if_pos hh] at h; exact absurd rfl h
  · rfl
theorem sum_bd {b : Int} {f g : Nat → Int} {L : Nat} (h2 : b ≤ 32) (h : allB b f g L = true) : ∀ k, k ≤ L → -4611686018427387904 * (k : Int) ≤ sumS f g k ∧ sumS f g k ≤ 4611686018427387904 * (k : Int) := by
  intro k
  induction k with
  | zero => intro _; simp [sumS]
  | succ k ih =>
    intro hk
    obtain ⟨h3, h4⟩ := ih (by omega)
    obtain ⟨hx, hy⟩ := allB_lt h (show k < L by omega)
    obtain ⟨q1, q2⟩ := mul_bd (inB_bd h2 hx) (inB_bd h2 hy)
    show _ ≤ sumS f g k + f k * g k ∧ sumS f g k + f k * g k ≤ _
    omega

theorem lists_nil (b s : Int) (f g : Nat → Int) (L : Nat) (hL1 : L ≤ 256) (w : World) (ba oa ca bb ob cb : Nat) (ha : ba < w.heap.size) (hb' : bb < w.heap.size)
    (fa : ∀ i, i < L → w.cell? ⟨ba, oa + i, none⟩ = some (I (f i))) (fb : ∀ i, i < L → w.cell? ⟨bb, ob + i, none⟩ = some (I (g i))) (h : lstF b s f g L = 0) :
    Calls Try.prog 50 #[fmt b s, .slice (some ⟨ba, oa, none⟩) L ca, .slice (some ⟨bb, ob, none⟩) L cb] w fun e w' => e = .returned .nilIface ∧ Ext w w' :=
  (lists_any b s f g L hL1 w ba oa ca bb ob cb ha hb' fa fb).mono fun _ _ ⟨he, hw⟩ => ⟨by rw [he, h]; rfl, hw⟩
theorem lists_err (b s : Int) (f g : Nat → Int) (L : Nat) (hL1 : L ≤ 256) (w : World) (ba oa ca bb ob cb : Nat) (ha : ba < w.heap.size) (hb' : bb < w.heap.size)
    (fa : ∀ i, i < L → w.cell? ⟨ba, oa + i, none⟩ = some (I (f i))) (fb : ∀ i, i < L → w.cell? ⟨bb, ob + i, none⟩ = some (I (g i))) (h : ¬ lstF b s f g L = 0) :
    Calls Try.prog 50 #[fmt b s, .slice (some ⟨ba, oa, none⟩) L ca, .slice (some ⟨bb, ob, none⟩) L cb] w fun e w' => e = .returned (.iface 68 (I 3)) ∧ Ext w w' :=
  (lists_any b s f g L hL1 w ba oa ca bb ob cb ha hb' fa fb).mono fun _ _ ⟨he, hw⟩ => ⟨by rw [he, lst_3 h]; rfl, hw⟩

set_option maxRecDepth 100000 in
set_option maxHeartbeats 1000000 in
theorem dotF_ok (b s n m : Int) (f g : Nat → Int) (L : Nat) (hL1 : L ≤ 256) (w : World) (ba oa ca bb ob cb : Nat) (ha : ba < w.heap.size) (hb' : bb < w.heap.size)
    (fa : ∀ i, i < L → w.cell? ⟨ba, oa + i, none⟩ = some (I (f i))) (fb : ∀ i, i < L → w.cell? ⟨bb, ob + i, none⟩ = some (I (g i))) (hp : dotP b s n m f g L) :
    Calls Try.prog 36 #[fmt b s, .slice (some ⟨ba, oa, none⟩) L ca, .slice (some ⟨bb, ob, none⟩) L cb, I n, I m] w fun e w' => e = .returned (res3 (dotF b s n m f g L)) ∧ Ext w w' := by
  have HR := Lib.hid (dot_ok hp)
  obtain ⟨hl, n1, n2, m1, m2⟩ := hp
  obtain ⟨hv, hall⟩ := lst_of hl
  obtain ⟨h1, h2, _, _⟩ := chk_of hv
  have HM := Lib.hid (okM_t m1 m2)
  have SB := Lib.hid (sum_bd h2 hall)
  have PB : Hid (∀ k, k < L → In64 (f k * g k)) := fun k hk => by
    obtain ⟨hx, hy⟩ := allB_lt hall hk
    obtain ⟨q1, q2⟩ := mul_bd (inB_bd h2 hx) (inB_bd h2 hy)
    exact ⟨by omega, by omega⟩
  have PW : Hid (∀ k, k < L → IntKind.i64.wrap (f k * g k) = f k * g k) := fun k hk => IntWalk.i64_in _ (PB.out k hk)
  have HL := Lib.hid hl; clear hl hv hall
  have FA := Lib.hid fa; clear fa
  have FB := Lib.hid fb; clear fb
  have HA : Hid (∀ w', Ext w w' → ∀ i, i < L → w'.cell? ⟨ba, oa + i, none⟩ = some (I (f i))) := fun w' hw' i hi => (hw'.old.1 ba (oa + i) ha).trans (FA.out i hi)
  have HB : Hid (∀ w', Ext w w' → ∀ i, i < L → w'.cell? ⟨bb, ob + i, none⟩ = some (I (g i))) := fun w' hw' i hi => (hw'.old.1 bb (ob + i) hb').trans (FB.out i hi)
  go_enter Try.func36, Try.ntmps36
  go_wp2_with fail
  refine (lists_nil b s f g L hL1 _ ba oa ca bb ob cb ?_ ?_ ?_ ?_ HL.out).mono ?_
  · simp; omega
  · simp; omega
  · exact HA.out _ (Ext.alloc _ _)
  · exact HB.out _ (Ext.alloc _ _)
  rintro e w1 ⟨rfl, hb⟩
  obtain ⟨hc1, hf1⟩ := hb.old
  go_wp2_with (first | (go_at_call 39; refine (isMode_is _ _ _ HM.out).mono ?_; rintro e w1 ⟨rfl, hb1⟩; (first | replace hb := Ext.trans hb hb1 | replace hb := Ext.trans (Ext.trans hb (Ext.drewN _ _)) hb1 | replace hb := Ext.trans (Ext.trans hb (Ext.alloc _ _)) hb1 | have hb := hb1); clear hb1; obtain ⟨hc1, hf1⟩ := hb.old))
  have HF := Lib.hid hb
  have pb0 : w1.cell? ⟨w.heap.size, 0, none⟩ = some (I b) := by rw [hc1 _ _ (by simp)]; go_simp
  have pb1 : w1.cell? ⟨w.heap.size, 1, none⟩ = some (I s) := by rw [hc1 _ _ (by simp)]; go_simp
  clear hb hc1 hf1
  have hws : w.heap.size < w1.heap.size := by have := HF.out.size; simp at this; omega
  have hwa : ba < w1.heap.size := by omega
  have hwb : bb < w1.heap.size := by omega
  go_loopw [39] (fun c wr => Ext w1 wr ∧ w1.heap.size < wr.heap.size ∧ ∃ k : Nat, k ≤ L ∧ c = I k ∧ wr.cell? ⟨w1.heap.size, 0, none⟩ = some (I (sumS f g k / M64)) ∧ wr.cell? ⟨w1.heap.size, 1, none⟩ = some (U (sumS f g k % M64)) ∧
      wr.frozen? ⟨w1.heap.size, 0, none⟩ = false ∧ wr.frozen? ⟨w1.heap.size, 1, none⟩ = false) (fun c _ => L - (intOf c).toNat)
  case atStart => exact ⟨(by repeat (first | exact Ext.refl _ | assumption | exact Ext.alloc _ _ | refine Ext.trans ?_ (by assumption) | refine Ext.trans ?_ (Ext.alloc _ _) | refine Ext.trans ?_ (Ext.drewN _ _) | refine Ext.trans ?_ (Ext.drew _))), by simp, 0, Nat.zero_le _, rfl, by go_simp; rfl, by go_simp; rfl, by go_simp, by go_simp⟩
  case round =>
    obtain ⟨hb, hz, k, hk, rfl, c0, c1, f0, f1⟩ := hrel
    obtain ⟨hc, hf⟩ := hb.old
    by_cases hlt : k < L
    · have ca1 := (HA.out _ ((Ext.alloc w _).trans HF.out)) k hlt
      have cb1 := (HB.out _ ((Ext.alloc w _).trans HF.out)) k hlt
      have hpw := PW.out k hlt
      have hS := SB.out k hk
      go_wp2_with fail
      go_region_with ((go_at_call 51; refine (plus_any (sumS f g k) _ _ (PB.out k hlt) (by omega) (by omega)).mono ?_; rintro e w2 ⟨rfl, hb2⟩; have c2 := (hb2.old.1 w1.heap.size 0 hz).trans c0; have c3 := (hb2.old.1 w1.heap.size 1 hz).trans c1; have f2 := (hb2.old.2 w1.heap.size 0 hz).trans f0; have f3 := (hb2.old.2 w1.heap.size 1 hz).trans f1))
      all_goals
        go_wp2_with fail
        go_roundw
        case rel =>
          refine ⟨Ext.set (Ext.set (hb.trans ((Ext.drew _).trans hb2)) (Nat.le_refl _) _) (Nat.le_refl _) _, ?_, k + 1, by omega, by go_num, ?_, ?_, ?_, ?_⟩
          · have := hb2.size; simp at this ⊢; omega
          · show _ = some (I ((sumS f g k + f k * g k) / M64)); go_simp
          · show _ = some (U ((sumS f g k + f k * g k) % M64)); go_simp
          · go_simp
          · go_simp
        case measure => simp [intOf]; omega
    · obtain rfl : k = L := by omega
      have hE := Lib.hid hb
      have hw2 : w.heap.size < wr.heap.size := by omega
      have hb := Ext.refl wr
      go_wp2_with fail
      have hL := fun (x : Later _) => (Ext.trans hb x.ext).old.1
      refine wp_region_later (by kernel_rfl) (by kernel_rfl) ?_
      repeat (go_big_quiet_step ((first | (go_at_call 52; exact Calls.later (tshift_any (sumS f g k) _ _ _ n1 n2 m1 m2)) | (go_at_call 38; exact Calls.later (saturate_any _ _ _ _ h1 h2)))))
      refine wpQuiet_nil ?_
      intro w2 hw2
      replace hb := Ext.trans hb (Later.of hw2)
      clear hw2 hL
      obtain ⟨hc, hf⟩ := hb.old
      go_wp2
      go_ret3
      exact ⟨by rw [HR.out]; rfl, (Ext.alloc _ _).trans (HF.out.trans (hE.out.trans hb))⟩

set_option maxRecDepth 100000 in
set_option maxHeartbeats 1000000 in
theorem dotF_bad (b s n m : Int) (f g : Nat → Int) (L : Nat) (hL1 : L ≤ 256) (w : World) (ba oa ca bb ob cb : Nat) (ha : ba < w.heap.size) (hb' : bb < w.heap.size)
    (fa : ∀ i, i < L → w.cell? ⟨ba, oa + i, none⟩ = some (I (f i))) (fb : ∀ i, i < L → w.cell? ⟨bb, ob + i, none⟩ = some (I (g i))) (hp : ¬ dotP b s n m f g L) :
    Calls Try.prog 36 #[fmt b s, .slice (some ⟨ba, oa, none⟩) L ca, .slice (some ⟨bb, ob, none⟩) L cb, I n, I m] w fun e w' => e = .returned (res3 (dotF b s n m f g L)) ∧ Ext w w' := by
  have HR := Lib.hid (dot_bad hp)
  have FA := Lib.hid fa; clear fa
  have FB := Lib.hid fb; clear fb
  have HA : Hid (∀ w', Ext w w' → ∀ i, i < L → w'.cell? ⟨ba, oa + i, none⟩ = some (I (f i))) := fun w' hw' i hi => (hw'.old.1 ba (oa + i) ha).trans (FA.out i hi)
  have HB : Hid (∀ w', Ext w w' → ∀ i, i < L → w'.cell? ⟨bb, ob + i, none⟩ = some (I (g i))) := fun w' hw' i hi => (hw'.old.1 bb (ob + i) hb').trans (FB.out i hi)
  by_cases hl : lstF b s f g L = 0
  · have hn : ¬ (0 ≤ n ∧ n ≤ 62 ∧ 0 ≤ m ∧ m ≤ 3) := fun h => hp ⟨hl, h⟩
    have HL := Lib.hid hl; clear hl hp
    by_cases hm : 0 ≤ m ∧ m ≤ 3
    · have hn' : n < 0 ∨ 62 < n := by omega
      have HM := Lib.hid (okM_t hm.1 hm.2)
      clear hm hn
      go_enter Try.func36, Try.ntmps36
      go_wp2_with fail
      refine (lists_nil b s f g L hL1 _ ba oa ca bb ob cb ?_ ?_ ?_ ?_ HL.out).mono ?_
      · simp; omega
      · simp; omega
      · exact HA.out _ (Ext.alloc _ _)
      · exact HB.out _ (Ext.alloc _ _)
      rintro e w1 ⟨rfl, hb⟩
      obtain ⟨hc1, hf1⟩ := hb.old
      go_wp2_with (first | (go_at_call 39; refine (isMode_is _ _ _ HM.out).mono ?_; rintro e w1 ⟨rfl, hb1⟩; (first | replace hb := Ext.trans hb hb1 | replace hb := Ext.trans (Ext.trans hb (Ext.drewN _ _)) hb1 | replace hb := Ext.trans (Ext.trans hb (Ext.alloc _ _)) hb1 | have hb := hb1); clear hb1; obtain ⟨hc1, hf1⟩ := hb.old))
      all_goals (go_ret3; exact ⟨by rw [HR.out]; rfl, (by repeat (first | exact Ext.refl _ | assumption | exact Ext.alloc _ _ | refine Ext.trans ?_ (by assumption) | refine Ext.trans ?_ (Ext.alloc _ _) | refine Ext.trans ?_ (Ext.drewN _ _) | refine Ext.trans ?_ (Ext.drew _)))⟩)
    · have HM := Lib.hid (okM_f hm)
      clear hm hn
      go_enter Try.func36, Try.ntmps36
      go_wp2_with fail
      refine (lists_nil b s f g L hL1 _ ba oa ca bb ob cb ?_ ?_ ?_ ?_ HL.out).mono ?_
      · simp; omega
      · simp; omega
      · exact HA.out _ (Ext.alloc _ _)
      · exact HB.out _ (Ext.alloc _ _)
      rintro e w1 ⟨rfl, hb⟩
      obtain ⟨hc1, hf1⟩ := hb.old
      go_wp2_with (first | (go_at_call 39; refine (isMode_is _ _ _ HM.out).mono ?_; rintro e w1 ⟨rfl, hb1⟩; (first | replace hb := Ext.trans hb hb1 | replace hb := Ext.trans (Ext.trans hb (Ext.drewN _ _)) hb1 | replace hb := Ext.trans (Ext.trans hb (Ext.alloc _ _)) hb1 | have hb := hb1); clear hb1; obtain ⟨hc1, hf1⟩ := hb.old))
      all_goals (go_ret3; exact ⟨by rw [HR.out]; rfl, (by repeat (first | exact Ext.refl _ | assumption | exact Ext.alloc _ _ | refine Ext.trans ?_ (by assumption) | refine Ext.trans ?_ (Ext.alloc _ _) | refine Ext.trans ?_ (Ext.drewN _ _) | refine Ext.trans ?_ (Ext.drew _)))⟩)
  · have HL := Lib.hid hl; clear hl hp
    go_enter Try.func36, Try.ntmps36
    go_wp2_with fail
    refine (lists_err b s f g L hL1 _ ba oa ca bb ob cb ?_ ?_ ?_ ?_ HL.out).mono ?_
    · simp; omega
    · simp; omega
    · exact HA.out _ (Ext.alloc _ _)
    · exact HB.out _ (Ext.alloc _ _)
    rintro e w1 ⟨rfl, hb⟩
    go_wp2
    go_ret3
    exact ⟨by rw [HR.out]; rfl, (by repeat (first | exact Ext.refl _ | assumption | exact Ext.alloc _ _ | refine Ext.trans ?_ (by assumption) | refine Ext.trans ?_ (Ext.alloc _ _) | refine Ext.trans ?_ (Ext.drewN _ _) | refine Ext.trans ?_ (Ext.drew _)))⟩

theorem dot_any (b s n m : Int) (f g : Nat → Int) (L : Nat) (hL1 : L ≤ 256) (w : World) (ba oa ca bb ob cb : Nat) (ha : ba < w.heap.size) (hb' : bb < w.heap.size)
    (fa : ∀ i, i < L → w.cell? ⟨ba, oa + i, none⟩ = some (I (f i))) (fb : ∀ i, i < L → w.cell? ⟨bb, ob + i, none⟩ = some (I (g i))) :
    Calls Try.prog 36 #[fmt b s, .slice (some ⟨ba, oa, none⟩) L ca, .slice (some ⟨bb, ob, none⟩) L cb, I n, I m] w fun e w' => e = .returned (res3 (dotF b s n m f g L)) ∧ Ext w w' := by
  by_cases hp : dotP b s n m f g L
  · exact dotF_ok b s n m f g L hL1 w ba oa ca bb ob cb ha hb' fa fb hp
  · exact dotF_bad b s n m f g L hL1 w ba oa ca bb ob cb ha hb' fa fb hp

end Go.Proofs.Ytfllhbebackbdaa
