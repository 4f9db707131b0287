/- The reference's Shift. -/
import Derived.Test.YtbpcekibdnpkhaaGreatDoorRefm
import Derived.Test.YtbpcekibdnpkhaaGreatDoorRefh
import Derived.Test.YtbpcekibdnpkhaaGreatDoorMdyf
import Derived.Deep.RegionHeld3
import Derived.Deep.DeepCutAuto
namespace Go.Proofs.YtbpcekibdnpkhaaGreatDoor
open Go.RowKit

theorem rnumber_I (neg : Bool) (A : Option Addr) (c m : Nat) (x : Int) (k : Nat) (w : World) (d' : DV) (hd : mkD neg m k = d') (hx : x = (k : Int)) (ha : Rd w A (len m) (dg m)) (oa : SlOk A (len m) c) (hn : len m ≤ 33554432) (hk : k ≤ 1073741824) :
    Calls Tryz.prog 99 #[.bool neg, .slice A (len m) c, I x] w (DyRes d' w) := by
  subst hx; rw [← hd]; exact rnumber_of neg A c k m w ha oa hn hk
theorem rleft_I (A : Option Addr) (m ca : Nat) (x : Int) (n : Nat) (w : World) (hx : x = (n : Int)) (ha : Rd w A (len m) (dg m)) (hL : len m ≤ 1073741824) (hn : n ≤ 1073741824) :
    Calls Tryz.prog 101 #[.slice A (len m) ca, I x] w (NatRes (m * 2 ^ n) w) := by
  subst hx; exact rleft_any A m n ca w ha hL hn
theorem shiftD_neg {d : DV} {s : Int} {K : Nat} (h : clampN s < 0) (hK : d.den + (-clampN s).toNat = K) : shiftD d s = mkD d.neg d.m K := by unfold shiftD; rw [if_pos h, hK]
theorem shiftD_pos {d : DV} {s : Int} {K : Nat} (h : 0 ≤ clampN s) (hK : (clampN s).toNat = K) : shiftD d s = mkD d.neg (d.m * 2 ^ K) d.den := by unfold shiftD; rw [if_neg (by omega), hK]
theorem clamp_lo {s : Int} (h : s < -65536) : clampN s = -65536 := by unfold clampN; omega
theorem clamp_hi {s : Int} (h : 65536 < s) : clampN s = 65536 := by unfold clampN; omega
theorem clamp_in {s : Int} (h : -65536 ≤ s) (h2 : s ≤ 65536) : clampN s = s := by unfold clampN; omega

end Go.Proofs.YtbpcekibdnpkhaaGreatDoor
