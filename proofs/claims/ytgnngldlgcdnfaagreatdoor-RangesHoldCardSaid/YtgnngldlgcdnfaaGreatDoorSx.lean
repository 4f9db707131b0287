import Derived.WalkKit
import Derived.ProofKit
import Derived.OpenShut
import Derived.LaidMore
import Derived.Lib.LaidTab
import Derived.SevenTiedAt
import Derived.Lay
import Derived.MakeChecks
import Derived.Sort.OwnSortedInts
import Derived.Test.YtgnngldlgcdnfaaGreatDoorQaa
import Derived.Test.YtgnngldlgcdnfaaGreatDoorQab
import Derived.Test.YtgnngldlgcdnfaaGreatDoorQac
import Derived.Test.YtgnngldlgcdnfaaGreatDoorQad
import Derived.Test.YtgnngldlgcdnfaaGreatDoorQae
import Derived.Test.YtgnngldlgcdnfaaGreatDoorQaf
import Derived.Test.YtgnngldlgcdnfaaGreatDoorQag
import Derived.Test.YtgnngldlgcdnfaaGreatDoorQah
import Derived.Test.YtgnngldlgcdnfaaGreatDoorQai
import Derived.Test.YtgnngldlgcdnfaaGreatDoorQaj
import Derived.Test.YtgnngldlgcdnfaaGreatDoorQak
import Derived.Test.YtgnngldlgcdnfaaGreatDoorQal
import Derived.Test.YtgnngldlgcdnfaaGreatDoorQam
import Derived.Test.YtgnngldlgcdnfaaGreatDoorQan
import Derived.Test.YtgnngldlgcdnfaaGreatDoorQao
import Derived.Test.YtgnngldlgcdnfaaGreatDoorQap
import Derived.Test.YtgnngldlgcdnfaaGreatDoorQaq
import Derived.Test.YtgnngldlgcdnfaaGreatDoorQar
import Derived.Test.YtgnngldlgcdnfaaGreatDoorQas
import Derived.Test.YtgnngldlgcdnfaaGreatDoorQat
import Derived.Test.YtgnngldlgcdnfaaGreatDoorQau
import Derived.Test.YtgnngldlgcdnfaaGreatDoorQav
import Derived.Test.YtgnngldlgcdnfaaGreatDoorQaw
import Derived.Test.YtgnngldlgcdnfaaGreatDoorQax
import Derived.Test.YtgnngldlgcdnfaaGreatDoorQay
import Derived.Test.YtgnngldlgcdnfaaGreatDoorRaa
import Derived.Test.YtgnngldlgcdnfaaGreatDoorRab
import Derived.Test.YtgnngldlgcdnfaaGreatDoorRac
import Derived.Test.YtgnngldlgcdnfaaGreatDoorRad
import Derived.Test.YtgnngldlgcdnfaaGreatDoorRae
import Derived.Test.YtgnngldlgcdnfaaGreatDoorRaf
import Derived.Test.YtgnngldlgcdnfaaGreatDoorRag
import Derived.Test.YtgnngldlgcdnfaaGreatDoorRah
import Derived.Test.YtgnngldlgcdnfaaGreatDoorRai
namespace Go.Proofs.YtgnngldlgcdnfaaGreatDoor
section
section
open Go.ChangeShapes Go.WideShapes Go.ChangeAt Go.RowKit
section
variable {H : Type} {enc : TypeId × Value → H} {P : Program}
end
section
variable {P : Program}
end
theorem u8w {n : Int} (h : (Lit.int .u8 n).wf = true) : 0 ≤ n ∧ n ≤ 255 := bounds_u8 h
end
section
open Go.ChangeShapes Go.WideShapes Go.ChangeAt Go.RowKit
end
end
section
section
end
section
theorem q_lo4 {a b c d : DV} (ha : a.ok) (hb : b.ok) (hc : c.ok) (hd : d.ok) : (lo4 a b c d).q = mnQ (mnQ (mnQ a.q b.q) c.q) d.q := by
 unfold lo4; rw [q_min (minD_ok (minD_ok ha hb) hc) hd, q_min (minD_ok ha hb) hc, q_min ha hb]
theorem q_hi4 {a b c d : DV} (ha : a.ok) (hb : b.ok) (hc : c.ok) (hd : d.ok) : (hi4 a b c d).q = mxQ (mxQ (mxQ a.q b.q) c.q) d.q := by
 unfold hi4; rw [q_max (maxD_ok (maxD_ok ha hb) hc) hd, q_max (maxD_ok ha hb) hc, q_max ha hb]
end
end
section
section
section
open Go Go.RowKit Go.Sort
end
section
open Go Go.RowKit
end
section
open Go Go.RowKit
section
variable {w : World} {D : Dia} {p : Pl}
end
end
end
section
section
open Go Go.RowKit
end
section
open Go Go.RowKit
set_option maxHeartbeats 400000 in
theorem is_err (k c : Int) (w : World) :
  Calls Tryz.prog 23 #[.iface 48 (I k), I c] w fun e w' => e = .returned (.bool (decide (k = c))) ∧ Ext w w' := by
 have ta := run_assert_int (P := Tryz.prog) (xT := 32) (v := I k) (w := w) Tryz.underlying48
 by_cases h : k = c
 ·subst h
  go_enter Tryz.func23, Tryz.ntmps23
  go_wp2
  go_ret
  exact ⟨by simp, Ext.refl _⟩
 ·go_enter Tryz.func23, Tryz.ntmps23
  go_wp2
  go_ret
  exact ⟨by simp [h], Ext.refl _⟩
end
end
section
open Go Go.RowKit
section
variable {w : World} {D : Dia} {p : Pl}
end
end
end
section
section
open Go Go.RowKit
theorem allN_true (n : Nat) : allN n (fun _ => true) = true := allN_iff.2 fun _ _ => rfl
end
end
end Go.Proofs.YtgnngldlgcdnfaaGreatDoor
