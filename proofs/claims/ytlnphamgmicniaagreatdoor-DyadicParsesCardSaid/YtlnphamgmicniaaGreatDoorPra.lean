/- Reading decimal digits: groups of nine. -/
import Derived.Test.YtlnphamgmicniaaGreatDoorMdtx
import Derived.Test.YtlnphamgmicniaaGreatDoorMref
namespace Go.Proofs.YtlnphamgmicniaaGreatDoor
open Go.RowKit

/-- A word times the size of a group, and what is carried. -/
theorem grow_step {S X x r c c' g pk : Nat} (h : S + c * pk = X * 1000000000 + g) (h2 : r + c' * 4294967296 = c + x * 1000000000) : S + r * pk + c' * (4294967296 * pk) = (X + x * pk) * 1000000000 + g := by
  have e : (r + c' * 4294967296) * pk = (c + x * 1000000000) * pk := by rw [h2]
  grind
def AppRes (base v g : Nat) (w : World) (e : Ending) (w' : World) : Prop :=
  ∃ A c, e = .returned (.slice A (len (v * 1000000000 + g)) c) ∧ On w' base A (len (v * 1000000000 + g)) c (dg (v * 1000000000 + g)) ∧ Below base w w'

set_option maxRecDepth 100000 in
set_option maxHeartbeats 4000000 in
theorem group_any (base : Nat) (A : Option Addr) (v g c : Nat) (w : World) (hO : On w base A (len v) c (dg v)) (hg : g < 1000000000) (hL : len v ≤ 1048576) (hb : base ≤ w.heap.size) :
    Calls Tryz.prog 113 #[.slice A (len v) c, U8 g] w (AppRes base v g w) := by
  have HO := Lib.hid hO; clear hO
  have hvl := valN_dg_all (m := v) (k := len v) (Nat.le_refl _)
  obtain ⟨L, hLe⟩ : ∃ L, len v = L := ⟨_, rfl⟩
  rw [hLe] at HO hL hvl ⊢
  have HVL := Lib.hid hvl
  clear hvl hLe
  go_enter Tryz.func113, Tryz.ntmps113
  go_wp2_with fail
  go_loopw [5, 11] (fun s5 s11 wr => ∃ (k cy : Nat) (F : Nat → Nat), k ≤ L ∧ s11 = I k ∧ s5 = U8 cy ∧ cy < 1000000000 ∧ Hid (On wr base A L c F) ∧ Hid (w.grownBy wr (Value.slice A L c).ownBlock) ∧ Hid (∀ i, i < L → F i < 4294967296) ∧ Hid (∀ j, k ≤ j → F j = dg v j) ∧ Hid (valN F k + cy * pB k = valN (dg v) k * 1000000000 + g)) (fun _ s11 _ => L - (intOf s11).toNat)
  case atStart => exact ⟨0, g, dg v, Nat.zero_le _, rfl, rfl, hg, HO, fr_refl _ _, (fun _ _ => dg_lt _ _), (fun _ _ => rfl), by show _ = _; simp [valN, pB_zero]⟩
  case round =>
    obtain ⟨k, cy, F, hk, rfl, rfl, hcy, hO, hfr, hFb, hFo, hv⟩ := hrel
    by_cases hlt : k < L
    · obtain ⟨_, hz, _⟩ | ⟨gb, rfl, hrow⟩ := hO.out.cases
      · omega
      · have hk1 : (k : Int) < (L : Int) := by omega
        have c1 := hrow.cell hlt
        have f1 := hrow.frozen k
        have hx := hFb.out k hlt
        have hFk := Lib.hid (hFo.out k (Nat.le_refl _))
        obtain ⟨y, hye⟩ : ∃ y, F k = y := ⟨_, rfl⟩
        rw [hye] at c1 hx hFk
        clear hye
        obtain ⟨t, ht⟩ : ∃ t, cy + y * 1000000000 = t := ⟨_, rfl⟩
        have htb : t < 4294967296000000000 := by omega
        obtain ⟨r, hr⟩ : ∃ r, t % 4294967296 = r := ⟨_, rfl⟩
        obtain ⟨c', hc'⟩ : ∃ c', t / 4294967296 = c' := ⟨_, rfl⟩
        have h2 : r + c' * 4294967296 = cy + y * 1000000000 := by omega
        have HS := Lib.hid (grow_step hv.out h2)
        have e1 : (cy : Int) + (y : Int) * 1000000000 = (t : Int) := by omega
        have e2 : (t : Int) % 4294967296 = (r : Int) := by omega
        have e3 : (t : Int) / 4294967296 = (c' : Int) := by omega
        have e4 : (y : Int) * 1000000000 % 18446744073709551616 = (y : Int) * 1000000000 := by omega
        have e5 : (t : Int) % 18446744073709551616 = (t : Int) := by omega
        have hr1 : r < 4294967296 := by omega
        have hc1 : c' < 1000000000 := by omega
        have HR := Lib.hid hrow
        clear ht hr hc' h2 hrow hO
        go_wp2_with fail
        go_roundw
        case rel =>
          refine ⟨k + 1, c', upd F k r, by omega, by go_num, rfl, hc1, Row.on (Row.set HR.out k r), fr_trans hfr.out (Row.set_fr HR.out k r), upd_lt hFb.out hr1, ?_, ?_⟩
          · exact fun j hj => by rw [upd_ne _ (by omega)]; exact hFo.out j (by omega)
          · show _ = _
            rw [valN_upd, pB_succ, valN, ← hFk.out]; exact HS.out
        case measure => simp [intOf]; omega
    · obtain rfl : k = L := by omega
      have hval := hv.out
      rw [HVL.out] at hval
      have HW := Lib.hid hval
      have hcy4 : cy < 4294967296 := by omega
      have e2 : (cy : Int) % 4294967296 = (cy : Int) := by omega
      clear hval hv hFo
      have hL12 : k ≤ 1099511627776 := by omega
      have hsz : base ≤ wr.heap.size := Nat.le_trans hb hfr.out.size
      have HBW : Hid (Below base w wr) := Below.grown (Below.refl base w) hfr.out hb (fun j hj => (World.ownsRow.lt hO.out j hj).1)
      have HF : Hid (∀ i, i < k + 1 → upd F k cy i < 4294967296) := fun i hi => by
        by_cases e : i = k
        · rw [e, upd_same]; exact hcy4
        · rw [upd_ne _ e]; exact hFb.out i (by omega)
      have HVN : Hid (valN (upd F k cy) (k + 1) = v * 1000000000 + g) := by show _ = _; rw [valN_upd]; exact HW.out
      have HOA := Lib.hid (hO.out.ext (Ext.alloc wr (.cells #[U4 cy] 80)))
      have HCA : Hid ((wr.alloc (.cells #[U4 cy] 80)).cell? ⟨wr.heap.size, 0, none⟩ = some (U4 cy)) := by show _ = _; go_simp
      have HSA : Hid (base ≤ (wr.alloc (.cells #[U4 cy] 80)).heap.size) := by show _ ≤ _; simp; omega
      have HBA : Hid (Below base w (wr.alloc (.cells #[U4 cy] 80))) := Below.trans HBW.out (Below.mono (Ext.alloc wr _) hsz)
      go_wp2_with (first
        | (at_builtin; refine app1 rfl _ _ rfl base A k c F rfl HOA.out ⟨wr.heap.size, 0, none⟩ 1 cy rfl HCA.out hL12 HSA.out ?_; intro g3 c3 w4 hrow hg4 hat4 hlt4; have HR3 := Lib.hid hrow; have HX3 : Hid (Below base w w4) := Below.grown HBA.out hg4 HSA.out (fun j hj => (World.ownsRow.lt HOA.out j hj).1); clear hrow hg4 hat4 hlt4)
        | (go_at_call 135; refine (trim_any _ _ _ (upd F k cy) _ HR3.out.rd HF.out HR3.out.cap.1 HR3.out.cap.2).mono ?_; rintro e w5 ⟨rfl, rfl⟩; rw [HVN.out]))
      go_ret
      refine ⟨some ⟨g3, 0, none⟩, c3, rfl, ?_, HX3.out⟩
      have hle : len (v * 1000000000 + g) ≤ k + 1 := by rw [← HVN.out]; exact len_le (valN_lt HF.out)
      exact ((HR3.out.le hle).congr fun i hi => by rw [← HVN.out]; exact (dg_valN HF.out (by omega)).symm).on
end Go.Proofs.YtlnphamgmicniaaGreatDoor
