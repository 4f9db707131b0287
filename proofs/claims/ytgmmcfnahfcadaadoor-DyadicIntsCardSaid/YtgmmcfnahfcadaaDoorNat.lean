/- Functions on natural numbers, part 1: words, trim, copies. -/
import Derived.Test.YtgmmcfnahfcadaaDoorBits
import Derived.Test.YtgmmcfnahfcadaaDoorRows
import Derived.Deep.AppendLies
import Derived.Deep.RegionHeld3
import Derived.Deep.RegionWith
namespace Go.Proofs.YtgmmcfnahfcadaaDoor
open Go.RowKit

def slen : Value → Nat
  | .slice _ n _ => n
  | _ => 0

set_option maxHeartbeats 400000 in
theorem add32_any (x y c : Nat) (w : World) (hx : x < 4294967296) (hy : y < 4294967296) (hc : c ≤ 1) :
    Calls Tryd.prog 103 #[U4 x, U4 y, U4 c] w fun e w' => e = .returned (.tuple #[U4 ((x + y + c) % 4294967296), U4 ((x + y + c) / 4294967296)]) ∧ w = w' := by
  go_enter Tryd.func103, Tryd.ntmps103
  go_wp2
  go_ret2
  exact ⟨by simp, rfl⟩

set_option maxHeartbeats 400000 in
theorem sub32_any (x y c : Nat) (w : World) (hx : x < 4294967296) (hy : y < 4294967296) (hc : c ≤ 1) :
    Calls Tryd.prog 109 #[U4 x, U4 y, U4 c] w fun e w' => e = .returned (.tuple #[U4 ((x + 4294967296 - y - c) % 4294967296), U4 (brw x y c)]) ∧ w = w' := by
  have HB := Lib.hid (borrow32 hx hy hc)
  have HD : Hid (((x : Int) - y - c) % 4294967296 = ((x + 4294967296 - y - c) % 4294967296 : Nat)) := by
    show _ = _
    omega
  go_enter Tryd.func109, Tryd.ntmps109
  go_wp2
  rw [HB.out, HD.out]
  go_ret2
  exact ⟨by rfl, rfl⟩

theorem add32_at (x y c s c' : Nat) (w : World) (hx : x < 4294967296) (hy : y < 4294967296) (hc : c ≤ 1) (hs : (x + y + c) % 4294967296 = s) (hc' : (x + y + c) / 4294967296 = c') :
    Calls Tryd.prog 103 #[U4 x, U4 y, U4 c] w fun e w' => e = .returned (.tuple #[U4 s, U4 c']) ∧ w = w' := by subst hs; subst hc'; exact add32_any x y c w hx hy hc
theorem sub32_at (x y c s c' : Nat) (w : World) (hx : x < 4294967296) (hy : y < 4294967296) (hc : c ≤ 1) (hs : (x + 4294967296 - y - c) % 4294967296 = s) (hc' : brw x y c = c') :
    Calls Tryd.prog 109 #[U4 x, U4 y, U4 c] w fun e w' => e = .returned (.tuple #[U4 s, U4 c']) ∧ w = w' := by subst hs; subst hc'; exact sub32_any x y c w hx hy hc

set_option maxHeartbeats 400000 in
theorem trim_any (A : Option Addr) (n c : Nat) (f : Nat → Nat) (w : World) (hr : Rd w A n f) (hb : ∀ i, i < n → f i < 4294967296) (hc : n ≤ c) (hm : c ≤ maxLen) :
    Calls Tryd.prog 101 #[.slice A n c] w fun e w' => e = .returned (.slice A (len (valN f n)) c) ∧ w = w' := by
  unfold maxLen at hm
  have HB := Lib.hid hb; clear hb
  have HR := Lib.hid hr; clear hr
  go_enter Tryd.func101, Tryd.ntmps101
  go_wp2
  go_loop [0] (fun s => ∃ k : Nat, k ≤ n ∧ Hid (∀ i, k ≤ i → i < n → f i = 0) ∧ s = .slice A k c) (fun s => slen s)
  case atStart => exact ⟨n, Nat.le_refl _, (fun i h1 h2 => by omega), rfl⟩
  case round =>
    obtain ⟨k, hk, hz, rfl⟩ := hrel
    cases k with
    | zero =>
      have hl := Lib.hid (len_valN HB.out hk hz.out (.inl rfl))
      go_wp2
      go_ret
      exact ⟨by rw [hl.out]; rfl, rfl⟩
    | succ j =>
      obtain ⟨b, o, rfl, hbw, hcell⟩ := HR.out.at_ (k := j) (by omega)
      by_cases h0 : f j = 0
      · have hz' : Hid (∀ i, j ≤ i → i < n → f i = 0) := fun i h1 h2 => by
          by_cases e : i = j
          · subst e; exact h0
          · exact hz.out i (by omega) h2
        rw [h0] at hcell
        clear h0 hz
        go_wp2
        go_round
        case rel => exact ⟨j, by omega, hz', rfl⟩
        case measure => simp [slen]
      · have hl := Lib.hid (len_valN HB.out hk hz.out (.inr (by simpa using h0)))
        have h1 : ((f j : Int) == 0) = false := by simp; omega
        clear h0 hz
        go_wp2
        go_ret
        exact ⟨by rw [hl.out]; rfl, rfl⟩

end Go.Proofs.YtgmmcfnahfcadaaDoor
